"""[9.10] and [9.11]: trails done word by word, turned about at every cut, and made into programs."""

import inspect

from bothways import made_routines, name, number, pair
from helpers import NO_NUMBERS, NO_SEQUENCES, Checks, Rule
from undocells.bwprogs import Program
from undocells.bwread import read_program
from undocells.bwrun import run_both, run_traced
from undocells.bwtext import program_text
from undocells.errors import BadInputs, BadProgram, BadTrail, BadWidth, OutOfFuel, Stuck
from undocells.plain import expression_word
from undocells.trails import straight_program, trail_back, trail_standings

W0, W1, W2 = name("w0"), name("w1"), name("w2")
TURNED = {"add": "sub", "sub": "add", "xor": "xor", "swap": "swap", "holds": "holds", "fails": "fails",
          "open": "shut", "shut": "open"}


def standings(trail, width, words):
    return list(trail_standings(trail, width, words))


def runs(times, careless=12, fuel=400):
    """(program, width, words, trail, words at the end) of runs that come to their end, by a fixed rule."""
    for seed in range(times):
        program = Program(made_routines(seed, careless))
        rule = Rule(seed)
        width = 1 + rule.below(12)
        words = tuple(rule.below(2 ** width) for _ in program.names)
        try:
            trail, last = run_traced(program, width, words, fuel)
        except (Stuck, OutOfFuel):
            continue
        yield program, width, words, trail, last


def made_trail(seed, width, words):
    """A trail that can be done, and its standings, by a rule: it opens and shuts also what it did not open."""
    rule = Rule(seed)
    words = list(words)
    trail, along = [], [tuple(words)]
    for _ in range(rule.below(14)):
        names = {f"w{at}": word for at, word in enumerate(words)}
        choice = rule.below(7)

        def worth(left_out=None):
            others = [text for text in names if text != left_out]
            one = name(rule.one_of(others)) if others else number(3)
            made = pair(rule.one_of(("+", "^", "<", "*")), one, number(rule.below(9)))
            return made, expression_word(made, names, width)
        if choice < 3 and words:
            at = rule.below(len(words))
            word = rule.one_of(("add", "sub", "xor"))
            expression, told = worth(f"w{at}")
            trail.append((word, f"w{at}", expression))
            words[at] = {"add": words[at] + told, "sub": words[at] - told, "xor": words[at] ^ told}[word] % 2 ** width
        elif choice == 3 and len(words) > 1:
            trail.append(("swap", "w0", f"w{len(words) - 1}"))
            words[0], words[-1] = words[-1], words[0]
        elif choice == 4:
            expression, told = worth()
            trail.append(("holds" if told else "fails", expression))
        elif choice == 5 and len(words) < 5:
            expression, told = worth()
            trail.append(("open", f"w{len(words)}", expression))
            words.append(told)
        elif choice == 6 and words:
            trail.append(("shut", f"w{len(words) - 1}", number(words[-1])))
            words.pop()
        else:
            continue
        along.append(tuple(words))
    return tuple(trail), along


class Standings(Checks):

    def test_it_is_a_generator(self):
        self.assertTrue(inspect.isgeneratorfunction(trail_standings))

    def test_an_empty_trail(self):
        self.same(standings((), 3, (1, 7)), [(1, 7)])
        self.same(standings([], 3, [1, 7]), [(1, 7)])
        self.same(standings([], 12, []), [()])
        self.same(trail_back(()), ())
        self.same(trail_back([]), ())

    def test_each_deed(self):
        trail = (("add", "w0", W1), ("sub", "w1", number(3)), ("xor", "w0", number(1)), ("swap", "w0", "w1"),
                 ("open", "w2", pair("+", W0, W1)), ("holds", W2), ("fails", pair("==", W2, W0)),
                 ("shut", "w2", number(4095)), ("shut", "w1", number(2)))
        along = [(2, 1), (3, 1), (3, 6), (2, 6), (6, 2), (6, 2, 0), (6, 2, 0)]
        self.same(standings(trail[:5], 3, (2, 1)), along[:6])
        self.fails(BadTrail(5, "check"), standings, trail, 3, (2, 1))
        trail = trail[:5] + (("fails", W2), ("holds", pair("==", W1, number(2))), ("shut", "w2", number(8)), trail[8])
        self.same(standings(trail, 3, (2, 1)), along + [(6, 2, 0), (6, 2), (6,)])
        self.same(trail_back(trail), (
            ("open", "w1", number(2)), ("open", "w2", number(8)), ("holds", pair("==", W1, number(2))), ("fails", W2),
            ("shut", "w2", pair("+", W0, W1)), ("swap", "w0", "w1"), ("xor", "w0", number(1)),
            ("add", "w1", number(3)), ("sub", "w0", W1)))

    def test_any_number_of_words(self):
        words = tuple(k % 5 for k in range(300))
        self.same(standings([("add", "w299", name("w298"))], 4, words)[-1], words[:299] + (7,))

    def test_every_cut_of_made_trails_leads_back_through_the_same_standings(self):
        for seed in range(400):
            width = 1 + seed % 12
            first = tuple(Rule(seed).below(2 ** width) for _ in range(seed % 4))
            trail, along = made_trail(seed, width, first)
            self.same(standings(trail, width, first), along)
            for cut in range(len(trail) + 1):
                back = trail_back(trail[:cut])
                self.same(standings(back, width, along[cut]), along[:cut + 1][::-1])
                self.same(trail_back(back), trail[:cut])
            self.same([TURNED[deed[0]] for deed in trail][::-1], [deed[0] for deed in trail_back(trail)])

    def test_runs_lead_along_their_trails_and_back_at_every_cut(self):
        many = 0
        for _, width, words, trail, last in runs(150):
            along = standings(trail, width, words)
            self.same((along[0], along[-1], len(along)), (words, last, len(trail) + 1))
            for cut in {0, 1, len(trail) // 2, len(trail)}:
                self.same(standings(trail_back(trail[:cut]), width, along[min(cut, len(trail))]),
                          along[:cut + 1][::-1])
            many += 1
        self.assertGreater(many, 60)

    def test_what_is_passed_is_copied(self):
        trail, words = [("add", "w0", number(1)), ("add", "w0", number(1))], [0]
        along = trail_standings(trail, 3, words)
        self.same(next(along), (0,))
        del trail[1:]
        words.append(9)
        self.same(list(along), [(1,), (2,)])

    def test_wrong_arguments_in_their_order(self):
        for width in (0, 13, *NO_NUMBERS):
            self.fails(BadWidth(), standings, None, width, None)
        for words in NO_SEQUENCES:
            self.fails(BadInputs(-1, "many"), standings, None, 3, words)
        for word in (8, -1, *NO_NUMBERS):
            self.fails(BadInputs(1, "word"), standings, None, 3, (7, word, word))
        for trail in NO_SEQUENCES:
            self.fails(BadTrail(-1, "form"), standings, trail, 3, (7,))

    def test_deeds_of_no_form(self):
        bad = [None, 5, (), "add", ["add", "w0", W1], ("add",), ("add", "w0"), ("add", "w0", W1, W1), ("ADD", "w0", W1),
               (1, "w0", W1), (("add",), "w0", W1), ("add", 0, W1), ("add", ["w0"], W1), ("add", "w2", W1),
               ("add", "w00", W1), ("add", "x", W1), ("add", "w0", W2), ("add", "w0", W0),
               ("xor", "w0", pair("+", W1, W0)), ("sub", "w0", pair("+", W1, name("x"))), ("swap", "w0", "w0"),
               ("swap", "w0", "w2"), ("swap", "w2", "w0"), ("swap", "w0"), ("swap", "w0", W1), ("holds",),
               ("holds", "w0", W1), ("holds", W2), ("fails", W2), ("fails",), ("open", "w1", number(1)),
               ("open", "w3", number(1)), ("open", "w2", W2), ("open", "w2"), ("shut", "w0", number(2)),
               ("shut", "w2", number(1)), ("shut", "w1", W1), ("shut", "w1", W2), ("shut", "w1"),
               ("call", "p", ()), ("if", W0, (), (), W0)]
        for deed in bad:
            self.fails(BadTrail(0, "form"), standings, [deed], 3, (2, 1))
            self.fails(BadTrail(2, "form"), standings, [("holds", W0), ("xor", "w0", W1), deed, None], 3, (2, 1))
        self.fails(BadTrail(0, "form"), standings, [("shut", "w0", number(0))], 3, ())

    def test_a_check_that_is_not_so(self):
        for deed in (("holds", pair("<", W0, W1)), ("fails", W0), ("shut", "w1", W0), ("shut", "w1", number(3))):
            along = trail_standings([("add", "w0", number(8)), deed, None], 3, (2, 1))
            self.same((next(along), next(along)), ((2, 1), (2, 1)))
            self.fails(BadTrail(1, "check"), next, along)

    def test_of_two_faults_the_form_and_the_first_deed_come_first(self):
        self.fails(BadTrail(0, "form"), standings, [("shut", "w0", number(5)), ("fails", W0)], 3, (2, 1))
        self.fails(BadTrail(0, "check"), standings, [("fails", W0), None], 3, (2, 1))
        self.fails(BadTrail(1, "form"), standings, [("shut", "w1", number(1)), ("swap", "w0", "w1")], 3, (2, 1))


def straight_end(program, width, words):
    """The words at the end of a run, or what stopped it."""
    try:
        return run_both(program, width, words)
    except (Stuck, OutOfFuel) as error:
        return error.__class__.__name__


class Straight(Checks):

    def test_the_program_of_a_trail(self):
        program = read_program("routine p(x,y){if x{y+=x;}else{}fi x;local z=y{x<=>y;z^=1;}end z=x^1;}")
        trail, _ = run_traced(program, 4, (2, 1))
        made = straight_program(trail, 2)
        self.same(program_text(made), "routine made(w0,w1){if w0{}else{}fi 1;w1+=w0;if w0{}else{}fi 1;"
                                      "local w2=w1{w0<=>w1;w2^=1;}end w2=w0^1;}")
        trail, _ = run_traced(program, 4, (0, 1))
        self.same(program_text(straight_program(list(trail), 2)), "routine made(w0,w1){if w0{}else{}fi 0;"
                  "if w0{}else{}fi 0;local w2=w1{w0<=>w1;w2^=1;}end w2=w0^1;}")
        self.same(straight_program((), 0).routines, (("made", (), ()),))
        self.same(straight_program([], 3).routines, (("made", ("w0", "w1", "w2"), ()),))

    def test_it_does_what_the_run_did_and_else_what_the_program_does_or_is_stuck(self):
        ended = stuck = 0
        for program, width, words, trail, last in runs(150):
            straight = straight_program(trail, len(words))
            self.same((straight.names, len(straight.routines)), (tuple(f"w{k}" for k in range(len(words))), 1))
            # each check of the straight program closes with one of 1 or 0
            closing = (("holds", number(1)), ("fails", number(0)))
            self.same([deed for deed in run_traced(straight, width, words)[0] if deed not in closing],
                      [deed for deed in trail if deed not in closing])
            self.same(run_both(straight, width, words), last)
            for other in range(6):
                rule = Rule(other)
                others = tuple(rule.below(2 ** width) for _ in words)
                end = straight_end(straight, width, others)
                if end != "Stuck":
                    ended += 1
                    self.same(end, straight_end(program, width, others))
                else:
                    stuck += 1
        self.assertGreater(min(ended, stuck), 50)

    def test_locals_as_deep_as_is_let_and_deeper(self):
        for deep in (20, 21, 22):
            trail = [("open", f"w{1 + k}", W0) for k in range(deep)]
            trail += [("shut", f"w{deep - k}", W0) for k in range(deep)]
            if deep == 22:
                self.fails(BadProgram((0,) + (0, 0) * 21 + (0,), "level"), straight_program, trail, 1)
            else:
                self.same(run_traced(straight_program(trail, 1), 3, (5,)), (tuple(trail), (5,)))
        self.fails(BadProgram((0,), "parameters"), straight_program, (), 207)
