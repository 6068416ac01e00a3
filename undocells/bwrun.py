"""Programs of the language of both ways run on words, with the row of their deeds."""

from undocells.basics import is_within
from undocells.errors import BadFuel, OutOfFuel, Stuck
from undocells.readings import names_in, renamed_expression
from undocells.words import check_inputs, check_width, step_word

MOST_FUEL = 20000
# the word of each statement turned about; the others stay
TURNED_WORDS = {"add": "sub", "sub": "add", "call": "back", "back": "call"}


def check_fuel(fuel):
    """The fuel itself, if there may be so much."""
    if not is_within(fuel, 1, MOST_FUEL):
        raise BadFuel()
    return fuel


def run_both(program, width, words, fuel=20000):
    """The words of the last routine's parameters as they are in the end."""
    return whole_run(program, width, words, fuel, False).now()


def run_traced(program, width, words, fuel=20000):
    """The trail of a run, and the words at its end."""
    run = whole_run(program, width, words, fuel, True)
    return tuple(run.trail), run.now()


def whole_run(program, width, words, fuel, traced):
    """A run of the last routine that has come to its end."""
    check_width(width)
    given = check_inputs(words, len(program.names), width)
    run = Run(program, width, given, check_fuel(fuel), traced)
    run_routine(run, len(program.routines) - 1, list(range(len(given))), False)
    return run


class Run:
    """A run: the living words, the fuel that is left, and what was done. Deeds tell names by their slots."""

    def __init__(self, program, width, words, fuel, traced):
        self.routines = program.routines
        self.numbers = {routine[0]: number for number, routine in enumerate(program.routines)}
        self.width = width
        self.words = list(words)
        self.fuel = fuel
        self.done = 0
        self.traced = traced
        self.trail = []

    def now(self):
        """All living words."""
        return tuple(self.words)

    def burn(self):
        """Count one more."""
        if self.fuel == 0:
            raise OutOfFuel()
        self.fuel -= 1

    def tell(self, word, slots, names, expression):
        """Count a deed on these names, and tell it if there is a trail."""
        self.done += 1
        if self.traced:
            deed = [word] + [f"w{slots[name]}" for name in names]
            if expression is not None:
                numbered = {name: f"w{slots[name]}" for name in names_in(expression)}
                deed.append(renamed_expression(expression, numbered))
            self.trail.append(tuple(deed))

    def word_of(self, expression, slots):
        """The word of an expression; slots tells where the word of each name stands."""
        if expression[0] == "number":
            return expression[1] & (1 << self.width) - 1
        if expression[0] == "name":
            return self.words[slots[expression[1]]]
        return step_word(expression[1], [self.word_of(part, slots) for part in expression[2]], self.width)

    def check(self, expression, slots):
        """Whether an expression holds, told as a deed."""
        holds = self.word_of(expression, slots) != 0
        self.tell("holds" if holds else "fails", slots, (), expression)
        return holds

    def demand(self, expression, slots, wanted, where, what):
        """A check that must come out as wanted; otherwise the run is stuck."""
        if (self.word_of(expression, slots) != 0) != wanted:
            raise Stuck(where, what, self.done, self.now())
        self.check(expression, slots)


def run_routine(run, number, handed, is_back):
    """The body of a routine, whose parameters stand for the words in the handed slots."""
    _, parameters, body = run.routines[number]
    run_block(run, body, (number,), dict(zip(parameters, handed)), is_back)


def run_block(run, block, where, slots, is_back):
    """The statements of a block, turned about if it is run back."""
    numbers = list(range(len(block)))
    if is_back:
        numbers.reverse()
    for index in numbers:
        run_statement(run, block[index], (*where, index), slots, is_back)


def run_statement(run, statement, where, slots, is_back):
    """One statement, turned about if it is run back."""
    run.burn()
    word = TURNED_WORDS.get(statement[0], statement[0]) if is_back else statement[0]
    if word in ("call", "back"):
        handed = [slots[name] for name in statement[2]]
        run_routine(run, run.numbers[statement[1]], handed, word == "back")
    elif word == "if":
        run_if(run, statement, where, slots, is_back)
    elif word == "from":
        run_from(run, statement, where, slots, is_back)
    elif word == "local":
        run_local(run, statement, where, slots, is_back)
    else:
        run_change(run, word, statement, slots)


def run_change(run, word, statement, slots):
    """A change or an exchange."""
    _, name, other = statement
    slot, most = slots[name], (1 << run.width) - 1
    if word == "swap":
        run.words[slot], run.words[slots[other]] = run.words[slots[other]], run.words[slot]
        run.tell(word, slots, (name, other), None)
        return
    worth = run.word_of(other, slots)
    if word == "xor":
        run.words[slot] ^= worth
    else:
        run.words[slot] = run.words[slot] + (worth if word == "add" else -worth) & most
    run.tell(word, slots, (name,), other)


def ends_of(one, other, is_back):
    """The expressions that open and close a statement as it is run."""
    return (other, one) if is_back else (one, other)


def run_if(run, statement, where, slots, is_back):
    """An if."""
    _, first, yes, no, last = statement
    begin, end = ends_of(first, last, is_back)
    holds = run.check(begin, slots)
    if holds:
        run_block(run, yes, (*where, 0), slots, is_back)
    else:
        run_block(run, no, (*where, 1), slots, is_back)
    run.demand(end, slots, holds, where, "fi")


def run_from(run, statement, where, slots, is_back):
    """A from."""
    _, first, body, again, last = statement
    begin, end = ends_of(first, last, is_back)
    run.demand(begin, slots, True, where, "from")
    run_block(run, body, (*where, 0), slots, is_back)
    while not run.check(end, slots):
        run.burn()
        run_block(run, again, (*where, 1), slots, is_back)
        run.demand(begin, slots, False, where, "loop")
        run_block(run, body, (*where, 0), slots, is_back)


def run_local(run, statement, where, slots, is_back):
    """A local, whose word lives behind all others."""
    _, name, first, body, last = statement
    begin, end = ends_of(first, last, is_back)
    inner = dict(slots)
    inner[name] = len(run.words)
    run.words.append(run.word_of(begin, slots))
    run.tell("open", inner, (name,), begin)
    run_block(run, body, (*where, 0), inner, is_back)
    if run.words[-1] != run.word_of(end, slots):
        raise Stuck(where, "end", run.done, run.now())
    run.tell("shut", inner, (name,), end)
    run.words.pop()
