"""Programs of the language of both ways made by a fixed rule, and runs by the words of the document."""

from helpers import Rule
from undocells.plain import expression_word

OPPOSITE = {"add": "sub", "sub": "add", "call": "back", "back": "call"}
PAIRS = ("+", "-", "*", "&", "|", "^", "==", "<")


def number(n):
    return ("number", n)


def name(text):
    return ("name", text)


def pair(sign, one, other):
    return ("op", (sign,), (one, other))


class Writer:
    """Writes a program by a rule. Most checks of it come out well, some do not."""

    def __init__(self, seed, careless=12):
        self.rule = Rule(seed)
        self.careless = careless
        self.routines = []
        self.count = 0

    def expression(self, names, depth=2):
        choice = self.rule.below(10 if depth else 4)
        if choice < 3 and names:
            return name(self.rule.one_of(names))
        if choice < 4:
            return number(self.rule.one_of((0, 1, 2, 3, 5, 255, 4095)))
        if choice < 8:
            return pair(self.rule.one_of(PAIRS), self.expression(names, depth - 1), self.expression(names, depth - 1))
        if choice == 8:
            return ("op", ("pick",), tuple(self.expression(names, depth - 1) for _ in range(3)))
        if self.rule.below(2):
            return ("op", (self.rule.one_of(("<<", ">>")), self.rule.below(5)), (self.expression(names, depth - 1),))
        numbers = tuple(self.rule.below(9) for _ in range(self.rule.one_of((1, 2, 4, 8, 16))))
        return ("op", ("table", numbers), (self.expression(names, depth - 1),))

    def is_careless(self):
        return self.rule.below(self.careless) == 0

    def block(self, free, fixed, depth):
        """Statements that change the free names; the fixed ones are visible, too."""
        return tuple(self.statement(free, fixed, depth) for _ in range(self.rule.below(4)))

    def statement(self, free, fixed, depth):
        choice = self.rule.below(10 if depth else 5)
        if choice < 3 and free:
            changed = self.rule.one_of(free)
            others = [other for other in free + fixed if other != changed]
            return (self.rule.one_of(("add", "sub", "xor")), changed, self.expression(others))
        if choice < 4 and len(free) > 1:
            one = self.rule.one_of(free)
            return ("swap", one, self.rule.one_of([other for other in free if other != one]))
        if choice < 6 and self.routines:
            handing = self.handing(free)
            if handing:
                return handing
        if depth and choice < 8:
            return self.fork(free, fixed, depth)
        if depth and choice == 8:
            return self.loop(free, fixed, depth)
        return self.local(free, fixed, depth) if depth else ("local", self.fresh(), number(3), (), number(3))

    def handing(self, free):
        fitting = [(called, len(names)) for called, names, _ in self.routines if len(names) <= len(free)]
        if not fitting:
            return None
        called, many = self.rule.one_of(fitting)
        at = self.rule.below(len(free))
        return (self.rule.one_of(("call", "back")), called, tuple((free[at:] + free[:at])[:many]))

    def fresh(self):
        self.count += 1
        return f"v{self.count}"

    def fork(self, free, fixed, depth):
        test = self.expression(free + fixed)
        used = used_in(test)
        kept = [other for other in free if other not in used or self.is_careless()]
        held = fixed + [other for other in free if other not in kept]
        last = self.expression(free + fixed) if self.is_careless() else test
        return ("if", test, self.block(kept, held, depth - 1), self.block(kept, held, depth - 1), last)

    def loop(self, free, fixed, depth):
        """A local that counts the rounds of a from."""
        count, rounds = self.fresh(), 1 + self.rule.below(4)
        first = self.block(free, fixed + [count], depth - 1) + (("add", count, number(1)),)
        again = self.block(free, fixed + [count], depth - 1)
        begin = pair("==", name(count), number(0))
        if self.is_careless():
            begin = self.rule.one_of((pair("==", name(count), number(1)), pair("<", name(count), number(2))))
        turn = ("from", begin, first, again, pair("==", name(count), number(rounds)))
        return ("local", count, number(0), (turn,), number(rounds + self.is_careless()))

    def local(self, free, fixed, depth):
        made, worth = self.fresh(), self.expression(free + fixed)
        used = used_in(worth)
        kept = [other for other in free if other not in used or self.is_careless()]
        held = fixed + [other for other in free if other not in kept]
        body = self.block(kept + [made], held, depth - 1) if self.is_careless() else (
            self.block(kept, held + [made], depth - 1))
        return ("local", made, worth, body, self.expression(free + fixed) if self.is_careless() else worth)

    def program(self):
        for routine in range(1 + self.rule.below(4)):
            names = [f"p{k}" for k in range(1 + self.rule.below(4))]
            body = self.block(names, [], 3) + self.block(names, [], 3)
            self.routines.append((f"r{routine}", tuple(names), body))
        return tuple(self.routines)


def made_routines(seed, careless=12):
    return Writer(seed, careless).program()


def used_in(expression):
    """The names in an expression."""
    if expression[0] == "name":
        return {expression[1]}
    return set().union(*[used_in(part) for part in expression[2]]) if expression[0] == "op" else set()


def led(expression, slots):
    """The expression over numbered words."""
    if expression[0] == "name":
        return ("name", f"w{slots[expression[1]]}")
    if expression[0] == "number":
        return expression
    return ("op", expression[1], tuple(led(part, slots) for part in expression[2]))


def placed(body, where):
    """The statements of a body with their where, blocks too."""
    found = []
    for index, statement in enumerate(body):
        here = (*where, index)
        parts = list(statement)
        if statement[0] in ("if", "from"):
            parts[2:4] = [placed(statement[2], (*here, 0)), placed(statement[3], (*here, 1))]
        if statement[0] == "local":
            parts[3] = placed(statement[3], (*here, 0))
        found.append((here, tuple(parts)))
    return tuple(found)


def turned(body):
    """Placed statements turned about."""
    found = []
    for where, statement in reversed(body):
        parts = [OPPOSITE.get(statement[0], statement[0]), *statement[1:]]
        if statement[0] in ("if", "from"):
            parts = [statement[0], statement[4], turned(statement[2]), turned(statement[3]), statement[1]]
        if statement[0] == "local":
            parts = ["local", statement[1], statement[4], turned(statement[3]), statement[2]]
        found.append((where, tuple(parts)))
    return tuple(found)


class Halt(Exception):
    """A run of the document that does not come to its end: what it tells."""


class Told:
    """A run by the words of the document, which first writes a deed and then does it."""

    def __init__(self, routines, width, words, fuel):
        self.routines = {routine[0]: (at, routine) for at, routine in enumerate(routines)}
        self.width, self.words, self.fuel = width, list(words), fuel
        self.trail, self.used = [], 0
        last = routines[-1]
        self.ending = None
        try:
            slots = {parameter: at for at, parameter in enumerate(last[1])}
            self.run(placed(last[2], (len(routines) - 1,)), slots)
        except Halt as halt:
            self.ending = halt.args

    def count(self):
        self.used += 1
        if self.used > self.fuel:
            raise Halt("fuel")

    def worth(self, expression, slots):
        names = {text: self.words[slot] for text, slot in slots.items()}
        return expression_word(expression, names, self.width)

    def stuck(self, where, what):
        raise Halt(where, what, len(self.trail), tuple(self.words))

    def check(self, expression, slots, wanted=None, where=None, what=None):
        holds = self.worth(expression, slots) != 0
        if wanted is not None and holds != wanted:
            self.stuck(where, what)
        self.trail.append(("holds" if holds else "fails", led(expression, slots)))
        return holds

    def run(self, body, slots):
        for where, statement in body:
            self.count()
            getattr(self, "do_" + statement[0])(where, statement, slots)

    def change(self, statement, slots, call):
        slot = slots[statement[1]]
        self.trail.append((statement[0], f"w{slot}", led(statement[2], slots)))
        self.words[slot] = call(self.words[slot], self.worth(statement[2], slots)) % 2 ** self.width

    def do_add(self, where, statement, slots):
        self.change(statement, slots, lambda one, other: one + other)

    def do_sub(self, where, statement, slots):
        self.change(statement, slots, lambda one, other: one - other)

    def do_xor(self, where, statement, slots):
        self.change(statement, slots, lambda one, other: one ^ other)

    def do_swap(self, where, statement, slots):
        one, other = slots[statement[1]], slots[statement[2]]
        self.trail.append(("swap", f"w{one}", f"w{other}"))
        self.words[one], self.words[other] = self.words[other], self.words[one]

    def do_if(self, where, statement, slots):
        _, first, yes, no, last = statement
        holds = self.check(first, slots)
        self.run(yes if holds else no, slots)
        self.check(last, slots, holds, where, "fi")

    def do_from(self, where, statement, slots):
        _, first, body, again, last = statement
        self.check(first, slots, True, where, "from")
        self.run(body, slots)
        while not self.check(last, slots):
            self.count()
            self.run(again, slots)
            self.check(first, slots, False, where, "loop")
            self.run(body, slots)

    def do_local(self, where, statement, slots):
        _, text, first, body, last = statement
        slot = len(self.words)
        self.trail.append(("open", f"w{slot}", led(first, slots)))
        self.words.append(self.worth(first, slots))
        self.run(body, {**slots, text: slot})
        if self.words[slot] != self.worth(last, slots):
            self.stuck(where, "end")
        self.trail.append(("shut", f"w{slot}", led(last, slots)))
        self.words.pop()

    def do_call(self, where, statement, slots, turn=lambda body: body):
        at, (_, parameters, body) = self.routines[statement[1]]
        handed = {parameter: slots[text] for parameter, text in zip(parameters, statement[2])}
        self.run(turn(placed(body, (at,))), handed)

    def do_back(self, where, statement, slots):
        self.do_call(where, statement, slots, turned)


def done_along(trail, width, words):
    """The words behind a trail, each deed done over numbered words, and whether all its checks come out."""
    words = list(words)
    right = True
    for word, *rest in trail:
        names = {f"w{at}": worth for at, worth in enumerate(words)}
        if word == "swap":
            one, other = int(rest[0][1:]), int(rest[1][1:])
            words[one], words[other] = words[other], words[one]
            continue
        worth = expression_word(rest[-1], names, width)
        if word in ("holds", "fails"):
            right = right and (worth != 0) == (word == "holds")
        elif word == "open":
            words.append(worth)
            right = right and rest[0] == f"w{len(words) - 1}"
        elif word == "shut":
            right = right and rest[0] == f"w{len(words) - 1}" and words.pop() == worth
        else:
            slot = int(rest[0][1:])
            call = {"add": words[slot] + worth, "sub": words[slot] - worth, "xor": words[slot] ^ worth}[word]
            words[slot] = call % 2 ** width
    return tuple(words), right
