"""[3.2] to [3.4]: webs."""

from helpers import NO_NUMBERS, NO_SEQUENCES, Checks, Rule
from undocells.bares import Bare
from undocells.errors import BadInputs, BadWeb
from undocells.search import price_of
from undocells.steps import Step
from undocells.webs import Web, joined_steps, web_worth, web_worths
from undocells.words import operand_count, step_word

GIVEN = Step(("same",), [("given", 0)])
SIGNS = ("+", "-", "*", "&", "|", "^", "==", "<")


def next_step(place=0):
    return Step(("<<", 1), [("place", place)])


def made_web(seed, most=5):
    """A web by a fixed rule, with many equal steps; places that nothing uses are added up in the end."""
    rule = Rule(seed)
    many, width = rule.below(3), 1 + rule.below(4)
    kinds = [("+",), ("-",), ("*",), ("&",), ("same",), ("<<", 1), ("pick",), ("table", (3, 1))]
    steps = []
    for place in range(1 + rule.below(most)):
        if place and rule.below(2):
            steps.append(rule.one_of(steps))
            continue
        kind, operands = rule.one_of(kinds), []
        for _ in range(operand_count(kind)):
            word = rule.one_of(["number"] + ["given"] * (many > 0) + ["place"] * (2 * (place > 0)))
            operands.append((word, rule.below({"number": 3, "given": many, "place": place}[word])))
        steps.append(Step(kind, operands))
    used = {before for step in steps for before in step.befores}
    loose = [place for place in range(len(steps)) if place not in used]
    while len(loose) > 1:
        steps.append(Step(("+",), [("place", loose.pop(0)), ("place", loose.pop(0))]))
        loose.append(len(steps) - 1)
    return Web(width, many, steps)


def all_inputs(web):
    for number in range(2 ** (web.width * web.many)):
        yield [number >> web.width * k & 2 ** web.width - 1 for k in range(web.many)]


class Making(Checks):

    def test_attributes(self):
        steps = [GIVEN, next_step(0), Step(("-",), [("place", 1), ("place", 0)])]
        web = Web(4, 1, steps)
        self.same((web.width, web.many, web.end, len(web)), (4, 1, 2, 3))
        self.assertIsInstance(web.steps, tuple)
        self.assertEqual([step for step in web], steps)
        self.assertEqual(list(web.steps), steps)
        self.assertTrue(web.bare == Bare([[], [0], [0, 1]], 2))

    def test_later_changes_have_no_effect(self):
        steps = [GIVEN, next_step()]
        web = Web(4, 1, steps)
        steps.pop()
        self.same(len(web), 2)

    def test_widths(self):
        for width in range(1, 13):
            self.same(Web(width, 1, [GIVEN]).width, width)
        for width in (0, 13, -1, *NO_NUMBERS):
            self.fails(BadWeb(-1, "width"), Web, width, 7, [])

    def test_many(self):
        for many in range(1, 7):
            self.same(Web(4, many, [GIVEN]).many, many)
        self.same(Web(4, 0, [Step(("same",), [("number", 4095)])]).many, 0)
        for many in (7, -1, *NO_NUMBERS):
            self.fails(BadWeb(-1, "many"), Web, 4, many, [])

    def test_1_to_200_steps(self):
        self.same(len(Web(4, 1, [GIVEN])), 1)
        self.same(len(Web(4, 1, [GIVEN] + [next_step(k) for k in range(199)])), 200)
        for steps in ([], (), [None] * 201, [GIVEN] + [next_step(k % 200) for k in range(200)], *NO_SEQUENCES):
            self.fails(BadWeb(-1, "steps"), Web, 4, 1, steps)

    def test_things_that_are_no_step(self):
        for thing in (None, 1, (("same",), (("given", 0),)), [], "step", Step):
            self.fails(BadWeb(1, "step"), Web, 4, 1, [GIVEN, thing, thing])

    def test_places_and_inputs_of_operands(self):
        self.fails(BadWeb(0, "place"), Web, 4, 1, [next_step(0)])
        self.fails(BadWeb(1, "place"), Web, 4, 1, [GIVEN, next_step(1)])
        self.fails(BadWeb(1, "place"), Web, 4, 1, [GIVEN, Step(("+",), [("place", 0), ("place", 2)]), next_step(1)])
        self.fails(BadWeb(1, "given"), Web, 4, 1, [GIVEN, Step(("+",), [("place", 0), ("given", 1)])])
        self.fails(BadWeb(0, "given"), Web, 4, 0, [GIVEN])
        for many in range(1, 6):
            self.same(len(Web(4, many, [Step(("same",), [("given", many - 1)])])), 1)
            self.fails(BadWeb(0, "given"), Web, 4, many, [Step(("same",), [("given", many)])])

    def test_all_words_of_one_step_come_before_those_of_the_next(self):
        self.fails(BadWeb(0, "given"), Web, 4, 1, [Step(("same",), [("given", 1)]), next_step(1)])
        self.fails(BadWeb(0, "place"), Web, 4, 1, [Step(("+",), [("given", 1), ("place", 0)]), None])
        self.fails(BadWeb(0, "place"), Web, 4, 1, [next_step(0), None])

    def test_idle_places(self):
        self.fails(BadWeb(0, "idle"), Web, 4, 1, [GIVEN, GIVEN])
        self.fails(BadWeb(1, "idle"), Web, 4, 1, [GIVEN, next_step(0), next_step(0)])
        self.fails(BadWeb(1, "idle"), Web, 4, 1, [GIVEN, next_step(0), next_step(1), next_step(0)])
        self.fails(BadWeb(2, "given"), Web, 4, 1, [GIVEN, GIVEN, Step(("same",), [("given", 1)])])

    def test_equality(self):
        one = Web(4, 1, [GIVEN, next_step()])
        self.assertTrue(one == Web(4, 1, (GIVEN, next_step())))
        self.assertFalse(one != Web(4, 1, (GIVEN, next_step())))
        for other in (Web(5, 1, one.steps), Web(4, 2, one.steps), Web(4, 1, [GIVEN]), one.bare, one.steps, None):
            self.assertFalse(one == other)
            self.assertTrue(one != other)


class Words(Checks):

    def test_words_of_places(self):
        web = Web(4, 2, [Step(("-",), [("given", 0), ("given", 1)]), Step(("*",), [("place", 0), ("number", 19)]),
                         Step(("pick",), [("place", 0), ("place", 1), ("number", 4095)])])
        self.same(web_worths(web, [5, 3]), (2, 6, 6))
        self.same(web_worths(web, (3, 3)), (0, 0, 15))
        self.same(web_worth(web, (3, 3)), 15)

    def test_errors(self):
        web = Web(4, 1, [GIVEN])
        for call in (web_worths, web_worth):
            for inputs in ((), (1, 2), *NO_SEQUENCES):
                self.fails(BadInputs(-1, "many"), call, web, inputs)
            for word in (16, -1, *NO_NUMBERS):
                self.fails(BadInputs(0, "word"), call, web, [word])

    def test_many_webs_keep_to_step_word(self):
        for seed in range(120):
            web = made_web(seed)
            for inputs in all_inputs(web):
                words = web_worths(web, inputs)
                self.same(web_worth(web, inputs), words[-1])
                for place, step in enumerate(web):
                    over = {"place": lambda k: words[k], "given": lambda k: inputs[k],
                            "number": lambda k: k % 2 ** web.width}
                    parts = [over[word](k) for word, k in step.operands]
                    self.same(words[place], step_word(step.kind, parts, web.width))


class Joining(Checks):

    def test_equal_steps_fall_together(self):
        web = Web(4, 1, [GIVEN, GIVEN, next_step(0), next_step(1), Step(("+",), [("place", 3), ("place", 2)])])
        joined, places = joined_steps(web)
        self.same(places, (0, 0, 1, 1, 2))
        self.assertTrue(joined == Web(4, 1, [GIVEN, next_step(0), Step(("+",), [("place", 1), ("place", 1)])]))

    def test_nothing_else_falls_together(self):
        plus = [Step(("+",), [("given", 0), ("given", 1)]), Step(("+",), [("given", 1), ("given", 0)])]
        web = Web(4, 2, plus + [Step(("*",), [("place", 0), ("place", 1)])])
        joined, places = joined_steps(web)
        self.assertTrue(joined == web)
        self.same(places, (0, 1, 2))
        numbers = [Step(("same",), [("number", 1)]), Step(("same",), [("number", 17)])]
        web = Web(4, 0, numbers + [Step(("*",), [("place", 0), ("place", 1)])])
        self.assertTrue(joined_steps(web)[0] == web)

    def test_many_webs(self):
        fallen = 0
        for seed in range(300):
            web = made_web(seed)
            joined, places = joined_steps(web)
            fallen += len(joined) < len(web)
            self.same((joined.width, joined.many, len(places)), (web.width, web.many, len(web)))
            steps = [repr((step.kind, step.operands)) for step in joined]
            self.same(len(set(steps)), len(steps))
            self.check_places(web, joined, places)
            for inputs in all_inputs(web):
                new, old = web_worths(joined, inputs), web_worths(web, inputs)
                self.same(tuple(new[place] for place in places), old)
            if len(web) <= 8:
                self.assertLessEqual(price_of(joined.bare), price_of(web.bare))
        self.assertGreater(fallen, 100)

    def check_places(self, web, joined, places):
        """Each old step is the new one over the new places; new numbers come in their order."""
        for old, step in enumerate(web):
            operands = tuple((word, places[k] if word == "place" else k) for word, k in step.operands)
            new = joined.steps[places[old]]
            self.same((new.kind, new.operands), (step.kind, operands))
            self.assertLessEqual(places[old], max(places[:old], default=-1) + 1)
        self.same(sorted(set(places)), list(range(len(joined))))
