"""[6.4] to [6.6]: plans and their rows."""

from helpers import NO_NUMBERS, NO_SEQUENCES, Checks, Rule, chain, large_bares, some_bares
from test_rounds import states_of
from undocells.bares import Bare, places_under
from undocells.errors import BadPlaces, BadPlan, NoPlace, TooMany
from undocells.moves import filled_behind, room_of, row_fault, standings_of
from undocells.plans import best_plan, lean_plan, plan_fault, plan_length, plan_to_row
from undocells.rounds import still_needed
from undocells.search import price_of

DIAMOND = Bare([[], [0], [0], [1, 2]], 3)
STAR = Bare([[] for _ in range(199)] + [list(range(199))], 199)
NO_PLACES = tuple(thing for thing in NO_NUMBERS if thing is not None)


def settled(bare, asked, filled):
    return set(bare.befores[asked]) <= set(filled)


def made_plan(bare, asked, filled, rule, lazy=3):
    """Any right plan by a rule; now and then it fills a place that does not help."""
    if settled(bare, asked, filled):
        return ()
    useful = [place for place in places_under(bare, asked) if place not in filled]
    idle = [place for place in range(len(bare)) if place != asked and place not in filled and place not in useful]
    place = rule.one_of(idle if idle and rule.below(lazy) == 0 else useful)
    return (place, made_plan(bare, asked, filled | {place}, rule, lazy), made_plan(bare, place, filled | {asked}, rule, lazy))


def length_of(plan):
    return 1 + max(length_of(plan[1]), length_of(plan[2])) if plan else 0


def lean_of(bare, plan, asked):
    if not plan:
        return ()
    place, stayed, gone = plan
    if place not in places_under(bare, asked):
        return lean_of(bare, stayed, asked)
    return (place, lean_of(bare, stayed, asked), lean_of(bare, gone, place))


def row_of(plan, asked):
    if not plan:
        return (asked,)
    there = row_of(plan[2], plan[0])
    return there + row_of(plan[1], asked) + there[::-1]


def stay_plan(fillings):
    """The plan of the star that fills so many places, nested along stayed."""
    plan = ()
    for place in range(fillings - 1, -1, -1):
        plan = (place, plan, ())
    return plan


def gone_plan(length):
    """The plan of a chain that fills the before of the asked place, nested along gone."""
    plan = ()
    for place in range(length - 1):
        plan = (place, (), plan)
    return plan


class Lengths(Checks):

    def test_lengths(self):
        self.same(plan_length(()), 0)
        self.same(plan_length((0, (), ())), 1)
        self.same(plan_length((0, (1, (), (2, (), ())), (1, (), ()))), 3)

    def test_the_plan_need_not_be_right(self):
        self.same(plan_length((99, (None, (), ()), (True, (0, (), ()), ()))), 3)

    def test_plans_nested_200_deep(self):
        self.same(plan_length(stay_plan(200)), 200)
        self.same(plan_length(gone_plan(201)), 200)


class Faults(Checks):

    def test_right_plans(self):
        self.assertIsNone(plan_fault(chain(1), ()))
        self.assertIsNone(plan_fault(chain(3), (1, (), (0, (), ()))))
        self.assertIsNone(plan_fault(chain(3), (0, (1, (), ()), ()), 2, []))
        self.assertIsNone(plan_fault(chain(3), (), 2, (1,)))
        self.assertIsNone(plan_fault(chain(3), (), 0))
        self.assertIsNone(plan_fault(chain(3), (), filled=[1]))

    def test_each_word(self):
        self.same(plan_fault(chain(3), ()), "early")
        self.same(plan_fault(chain(3), (1, (), ())), "early")
        self.same(plan_fault(chain(3), (0, (), ())), "early")
        self.same(plan_fault(chain(3), (0, (), ()), 0), "idle")
        self.same(plan_fault(chain(3), (1, (0, (), ()), (0, (), ()))), "idle")
        for thing in (3, -1, 2, *NO_NUMBERS):
            self.same(plan_fault(chain(3), (thing, (), ())), "place")
        self.same(plan_fault(chain(3), (0, (0, (), ()), ())), "place")
        self.same(plan_fault(chain(3), (1, (), (2, (), ()))), "place")
        self.same(plan_fault(chain(4), (1, (), ()), None, [1]), "place")

    def test_top_then_stayed_then_gone(self):
        self.same(plan_fault(chain(3), (9, (0, (), ()), ())), "place")
        self.same(plan_fault(chain(3), (1, (9, (), ()), ())), "idle")
        self.same(plan_fault(chain(3), (0, (9, (), ()), (1, (), ()))), "place")
        self.same(plan_fault(chain(3), (0, (), (9, (), ()))), "early")
        self.same(plan_fault(chain(4), (0, (1, (), ()), (9, (), ()))), "early")
        self.same(plan_fault(chain(4), (0, (1, (2, (), ()), (9, (), ())), ())), "idle")

    def test_the_asked_place_among_the_filled_is_left_out(self):
        self.assertIsNone(plan_fault(chain(3), (1, (), (0, (), ())), 2, [2]))
        self.assertIsNone(plan_fault(chain(3), (), 1, [1, 0]))

    def test_made_plans_are_right_and_spoilt_ones_are_not(self):
        for seed, bare in enumerate(some_bares(5, 5, 2)):
            plan = made_plan(bare, bare.end, frozenset(), Rule(seed))
            self.assertIsNone(plan_fault(bare, plan))
            place, stayed, gone = plan
            self.same(plan_fault(bare, (bare.end, stayed, gone)), "place")
            self.same(plan_fault(bare, (place, (place, (), ()), gone)),
                      "idle" if settled(bare, bare.end, (place,)) else "place")
            self.same(plan_fault(bare, (place, stayed, (place, (), ()))),
                      "idle" if settled(bare, place, (bare.end,)) else "place")

    def test_plans_nested_deep(self):
        self.assertIsNone(plan_fault(STAR, stay_plan(199)))
        self.assertIsNone(plan_fault(chain(200), gone_plan(200)))
        self.same(plan_fault(STAR, stay_plan(198)), "early")
        self.same(plan_fault(chain(200), gone_plan(200)[2][2]), "early")


class BadStates(Checks):
    """NoPlace and BadPlaces come ahead of what is wrong with a plan."""

    def test_errors(self):
        for call in (plan_fault, lean_plan, plan_to_row):
            for thing in (9, -1, *NO_PLACES):
                self.fails(NoPlace(thing), call, chain(9), (99, (), ()), thing, None)
            for thing in NO_SEQUENCES:
                self.fails(BadPlaces(-1), call, chain(9), (99, (), ()), 2, thing)
            self.fails(BadPlaces(1), call, chain(9), (99, (), ()), None, [0, 0])
            self.fails(BadPlaces(1), call, chain(9), (), None, [0, True])
        for thing in (9, -1, *NO_PLACES):
            self.fails(NoPlace(thing), best_plan, chain(9), thing, None)
        self.fails(BadPlaces(-1), best_plan, chain(9), 2, None)
        self.fails(BadPlaces(1), best_plan, chain(9), None, (3, 9))


class Best(Checks):

    def test_a_few(self):
        self.same(best_plan(chain(1)), ())
        self.same(best_plan(chain(2)), (0, (), ()))
        self.same(best_plan(chain(3)), (0, (1, (), ()), ()))
        self.same(best_plan(chain(4)), (1, (2, (), ()), (0, (), ())))
        self.same(best_plan(chain(4), 2, [0]), (1, (), ()))
        self.same(best_plan(chain(4), asked=3, filled=(2, 3)), ())

    def test_in_each_state_the_least_place_that_helps(self):
        for bare in list(some_bares(5, 9)) + list(large_bares(4)):
            self.check(bare, best_plan(bare), bare.end, ())

    def check(self, bare, plan, asked, filled):
        needed = still_needed(bare, asked, filled)
        self.same(plan_length(plan), needed)
        if needed == 0:
            self.same(plan, ())
            return
        helping = [place for place in range(len(bare)) if place != asked and place not in filled
                   and still_needed(bare, asked, filled + (place,)) < needed
                   and still_needed(bare, place, filled + (asked,)) < needed]
        self.same(plan[0], helping[0])
        self.check(bare, plan[1], asked, filled + (plan[0],))
        self.check(bare, plan[2], plan[0], filled + (asked,))

    def test_from_all_states(self):
        for bare in some_bares(4, 2):
            for asked, filled in states_of(bare):
                plan = best_plan(bare, asked, filled)
                self.assertIsNone(plan_fault(bare, plan, asked, filled))
                self.same(plan_length(plan), still_needed(bare, asked, filled))
                self.same(lean_plan(bare, plan, asked, filled), plan)

    def test_8_and_9_places(self):
        self.same(plan_length(best_plan(chain(8))), 3)
        self.fails(TooMany(8), best_plan, chain(9))
        self.fails(TooMany(8), best_plan, chain(9), 0, ())


class Lean(Checks):

    def test_fillings_of_places_that_are_not_under_the_asked_one_go(self):
        # place 0 is not under place 1
        bare = Bare([[], [], [0, 1]], 2)
        self.same(lean_plan(bare, (0, (1, (), ()), ())), (0, (1, (), ()), ()))
        tree = Bare([[], [], [1], [0, 2]], 3)
        self.same(lean_plan(tree, (2, (0, (), ()), (0, (1, (), ()), ()))), (2, (0, (), ()), (1, (), ())))
        self.same(lean_plan(chain(4), (3, (0, (), ()), (2, (), ())), 1), (0, (), ()))

    def test_made_plans(self):
        shorter = 0
        for seed, bare in enumerate(list(some_bares(5, 1)) + list(large_bares(20))):
            plan = made_plan(bare, bare.end, frozenset(), Rule(seed), 2)
            lean = lean_plan(bare, plan)
            self.same(lean, lean_of(bare, plan, bare.end))
            self.assertIsNone(plan_fault(bare, lean))
            self.assertLessEqual(plan_length(lean), plan_length(plan))
            self.same(lean_plan(bare, lean), lean)
            shorter += plan_length(lean) < plan_length(plan)
        self.assertGreater(shorter, 5)

    def test_made_plans_from_other_states(self):
        for seed, bare in enumerate(some_bares(4, 2, 3)):
            for asked, filled in states_of(bare):
                plan = made_plan(bare, asked, frozenset(filled), Rule(seed), 2)
                lean = lean_plan(bare, plan, asked, list(filled))
                self.same(lean, lean_of(bare, plan, asked))
                self.assertIsNone(plan_fault(bare, lean, asked, filled))

    def test_bad_plans(self):
        for plan, word in (((), "early"), ((9, (), ()), "place"), ((1, (0, (), ()), ()), "idle"), ((1, (), ()), "early")):
            self.fails(BadPlan(word), lean_plan, chain(3), plan)
            self.fails(BadPlan(word), plan_to_row, chain(3), plan)

    def test_plans_nested_deep(self):
        self.same(plan_length(lean_plan(STAR, stay_plan(199))), 199)
        self.same(plan_length(lean_plan(chain(200), gone_plan(200))), 199)


class Rows(Checks):

    def test_a_few(self):
        self.same(plan_to_row(chain(1), ()), (0,))
        self.same(plan_to_row(chain(2), (0, (), ())), (0, 1, 0))
        self.same(plan_to_row(chain(3), (1, (), (0, (), ()))), (0, 1, 0, 2, 0, 1, 0))
        self.same(plan_to_row(chain(3), (), 2, [1]), (2,))
        self.same(plan_to_row(chain(4), (3, (0, (), ()), (2, (), ())), 1), (0, 1, 0))

    def test_made_plans(self):
        for seed, bare in enumerate(list(some_bares(5, 2)) + list(large_bares(10))):
            plan = made_plan(bare, bare.end, frozenset(), Rule(seed))
            lean = lean_of(bare, plan, bare.end)
            row = plan_to_row(bare, plan)
            self.same(row, row_of(lean, bare.end))
            self.assertIsNone(row_fault(bare, row))
            self.same(room_of(bare, row), 1 + plan_length(lean))

    def test_from_all_states_with_just_so_many_places_filled_at_once(self):
        for seed, bare in enumerate(some_bares(4, 2)):
            for asked, filled in states_of(bare):
                plan = made_plan(bare, asked, frozenset(filled), Rule(seed), 2)
                lean = lean_of(bare, plan, asked)
                row = plan_to_row(bare, plan, asked, filled)
                self.same(row, row_of(lean, asked))
                self.same(filled_behind(bare, row, filled), tuple(sorted(filled + (asked,))))
                self.assertFalse(set(row) & set(filled))
                most = max(len(standing) for standing in standings_of(bare, row, filled))
                self.same(most, len(filled) + 1 + length_of(lean))

    def test_the_row_of_a_best_plan_has_the_price(self):
        for bare in list(some_bares(5, 3)) + list(large_bares(10)):
            row = plan_to_row(bare, best_plan(bare))
            self.assertIsNone(row_fault(bare, row, price_of(bare)))

    def test_20000_moves_and_more(self):
        self.same(len(plan_to_row(STAR, stay_plan(199))), 2 * 199 + 1)
        self.same(len(plan_to_row(chain(14), gone_plan(14))), 2 ** 14 - 1)
        self.fails(TooMany(20000), plan_to_row, chain(15), gone_plan(15))
        self.fails(TooMany(20000), plan_to_row, chain(200), gone_plan(200))

    def test_rows_of_just_20000_moves_and_one_more_step(self):
        # every gone plan of a wide state adds twice its own row to that of the rest: rows have odd lengths
        self.same(len(plan_to_row(*self.heavy(19999))), 19999)
        self.fails(TooMany(20000), plan_to_row, *self.heavy(20001))

    def heavy(self, moves):
        """A web and a plan with a row of just so many moves: chains that stand side by side under one end."""
        befores, tops, plans, rest = [], [], [], (moves - 1) // 2
        while rest:
            length = rest.bit_length() if rest == 2 ** rest.bit_length() - 1 else rest.bit_length() - 1
            start = len(befores)
            befores += [[]] + [[place] for place in range(start, start + length - 1)]
            tops.append(len(befores) - 1)
            plan = ()
            for place in range(start, start + length - 1):
                plan = (place, (), plan)
            plans.append(plan)
            rest -= 2 ** length - 1
        befores.append(tops)
        whole = ()
        for top, plan in zip(tops, plans):
            whole = (top, whole, plan)
        return Bare(befores, len(befores) - 1), whole
