"""[7.3]: plans of the namer."""

from helpers import NO_NUMBERS, Checks, Rule, chain, large_bares, some_bares
from test_hues import DIAMOND, is_over, names_by, paintings_of
from test_plans import length_of
from undocells.errors import BadPainting, TooMany
from undocells.hues import names_left, names_of
from undocells.namings import naming_fault, naming_plan, plan_names


def made_naming(bare, reds, blues, rule):
    """Any right naming plan by a rule."""
    if is_over(bare, reds, blues):
        return ()
    place = rule.one_of([p for p in range(len(bare)) if p not in reds | blues])
    return (place, made_naming(bare, reds | {place}, blues, rule), made_naming(bare, reds, blues | {place}, rule))


class Names(Checks):

    def test_plan_names(self):
        self.same(plan_names(()), 0)
        self.same(plan_names((0, (), ())), 1)
        self.same(plan_names((0, (1, (), ()), (2, (3, (), (4, (), ())), ()))), 4)
        self.same(plan_names((0, (2, (3, (), ()), ()), (1, (), ()))), 3)


class Faults(Checks):

    def test_right_plans(self):
        self.assertIsNone(naming_fault(chain(1), ()))
        self.assertIsNone(naming_fault(chain(2), (0, (), ())))
        self.assertIsNone(naming_fault(chain(3), (1, (0, (), ()), ())))
        self.assertIsNone(naming_fault(chain(3), (0, (), (1, (), ()))))
        self.assertIsNone(naming_fault(chain(3), (1, (), ()), [[2], [0]]))
        self.assertIsNone(naming_fault(chain(3), (), ((2,), (1,))))

    def test_form(self):
        for thing in (None, 3, "abc", [], [0, (), ()], (0,), (0, ()), (0, (), (), ())):
            self.same(naming_fault(chain(2), thing), "form")
            self.same(naming_fault(chain(1), thing), "form")
            self.same(naming_fault(chain(2), (0, thing, ())), "form")
            self.same(naming_fault(chain(2), (0, (), thing)), "form")

    def test_early(self):
        self.same(naming_fault(chain(2), ()), "early")
        self.same(naming_fault(chain(3), (1, (), ())), "early")
        self.same(naming_fault(chain(3), (0, (), ())), "early")

    def test_idle(self):
        self.same(naming_fault(chain(1), (0, (), ())), "idle")
        self.same(naming_fault(chain(2), (0, (0, (), ()), ())), "idle")
        self.same(naming_fault(chain(3), (1, (0, (), ()), (0, (), ()))), "idle")
        self.same(naming_fault(chain(3), (0, (), ()), ((0,), ())), "idle")

    def test_place(self):
        for thing in (2, -1, 1, *NO_NUMBERS):
            self.same(naming_fault(chain(2), (thing, (), ())), "place")
        self.same(naming_fault(chain(3), (0, (), (0, (), ()))), "place")
        self.same(naming_fault(chain(3), (1, (1, (), ()), ())), "place")
        self.same(naming_fault(chain(3), (0, (), ()), ((2,), (0,))), "place")

    def test_the_first_word_met_top_then_red_then_blue(self):
        self.same(naming_fault(chain(3), (9, None, None)), "place")
        self.same(naming_fault(chain(3), (1, None, (0, (), ()))), "form")
        self.same(naming_fault(chain(3), (1, (), (0, (), ()))), "early")
        self.same(naming_fault(chain(3), (1, (9, (), ()), (0, (), ()))), "place")
        self.same(naming_fault(chain(3), (1, (0, (), None), 3)), "form")
        self.same(naming_fault(chain(3), (0, (9, (), ()), (9, (), ()))), "idle")
        self.same(naming_fault(chain(1), (9, (), ())), "idle")

    def test_made_plans_and_spoilt_ones(self):
        for seed, bare in enumerate(list(some_bares(5, 3, 2)) + list(large_bares(5, (6,)))):
            plan = made_naming(bare, frozenset([bare.end]), frozenset(), Rule(seed))
            self.assertIsNone(naming_fault(bare, plan))
            self.same(plan_names(plan), length_of(plan))
            self.assertGreaterEqual(1 + plan_names(plan), names_of(bare))
            place, red, blue = plan
            self.same(naming_fault(bare, (bare.end, red, blue)), "place")
            self.same(naming_fault(bare, (place, red, (place, (), ()))), "idle" if blue == () else "place")
            self.same(naming_fault(bare, (place, (place, (), ()), 3)), "idle" if red == () else "place")

    def test_paintings_that_are_none(self):
        for painting, word in (((), "painting"), (((), ()), "reds"), (((0,), 3), "blues"), (((0,), (1, 0)), "both")):
            self.fails(BadPainting(word), naming_fault, chain(8), 3, painting)
            self.fails(BadPainting(word), naming_plan, chain(8), painting)

    def test_8_and_9_places(self):
        for painting in (None, (), ((0,), ())):
            self.fails(TooMany(8), naming_fault, chain(9), 3, painting)
            self.fails(TooMany(8), naming_plan, chain(9), painting)
        self.same(naming_fault(chain(8), 3), "form")
        self.same(plan_names(naming_plan(chain(8))), 3)


class Best(Checks):

    def test_a_few(self):
        self.same(naming_plan(chain(1)), ())
        self.same(naming_plan(chain(2)), (0, (), ()))
        self.same(naming_plan(chain(3)), (0, (), (1, (), ())))
        self.same(naming_plan(chain(3), [(2,), [1]]), ())
        self.same(naming_plan(chain(4), ((3,), (1,))), (2, (), ()))
        self.same(naming_plan(DIAMOND, ((3, 1), (2,))), (0, (), ()))

    def test_at_each_painting_the_least_place_that_helps(self):
        for bare in list(some_bares(5, 9)) + list(large_bares(2, (6,))):
            needed = names_by(bare)
            plan = naming_plan(bare)
            self.assertIsNone(naming_fault(bare, plan))
            self.same(1 + plan_names(plan), names_of(bare))
            self.check(bare, plan, frozenset([bare.end]), frozenset(), needed)

    def check(self, bare, plan, reds, blues, needed):
        many = needed(reds, blues)
        if many == 0:
            self.same(plan, ())
            return
        helping = [p for p in range(len(bare)) if p not in reds | blues
                   and max(needed(reds | {p}, blues), needed(reds, blues | {p})) == many - 1]
        place, red, blue = plan
        self.same(place, helping[0])
        self.check(bare, red, reds | {place}, blues, needed)
        self.check(bare, blue, reds, blues | {place}, needed)

    def test_from_all_paintings(self):
        for bare in some_bares(4, 5):
            needed = names_by(bare)
            for reds, blues in paintings_of(bare):
                plan = naming_plan(bare, (reds, blues))
                self.assertIsNone(naming_fault(bare, plan, (reds, blues)))
                self.same(plan_names(plan), names_left(bare, (reds, blues)))
                self.check(bare, plan, frozenset(reds), frozenset(blues), needed)
