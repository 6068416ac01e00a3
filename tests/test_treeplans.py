"""[8.6]: plans of numberings, and numberings of plans."""

from helpers import Checks, Rule, binary_tree, chain, kept_row
from test_plans import length_of, made_plan
from test_ties import is_right, made_numbering
from trees import NO_TREES, all_trees, great_trees, made_tree, some_trees, star
from undocells.errors import BadNumbering, BadPlan, NotTree
from undocells.moves import room_of, row_fault
from undocells.orderly import row_to_plan
from undocells.planner import piece_of
from undocells.plans import best_plan, plan_fault, plan_to_row
from undocells.search import fewest_moves, price_of
from undocells.ties import least_numbering, numbering_fault, tree_price
from undocells.treeplans import numbering_of_plan, plan_of_numbering


def greatest(numbering):
    return max([number for number in numbering if number is not None], default=-1)


def plan_told(bare, numbering, asked, filled):
    """The plan of the document."""
    ties = [place for place in piece_of(bare, asked, filled) if place != asked]
    if not ties:
        return ()
    place = max(ties, key=lambda tie: numbering[tie])
    return (place, plan_told(bare, numbering, asked, [*filled, place]), plan_told(bare, numbering, place, [*filled, asked]))


def number_told(bare, plan, asked, filled, numbers):
    """Write the numbers of the document into numbers, and return those of the piece."""
    piece = piece_of(bare, asked, filled)
    if len(piece) == 1:
        return []
    place, stayed, gone = plan
    if place not in piece:
        return number_told(bare, stayed, asked, [*filled, place], numbers)
    both = number_told(bare, stayed, asked, [*filled, place], numbers) + number_told(
        bare, gone, place, [*filled, asked], numbers)
    numbers[place] = 1 + max(both, default=-1)
    return both + [numbers[place]]


class PlanOf(Checks):

    def check(self, bare, numbering):
        plan = plan_of_numbering(bare, numbering)
        self.assertIsNone(plan_fault(bare, plan))
        self.assertLessEqual(length_of(plan), 1 + greatest(numbering))
        if len(bare) < 12:
            row = plan_to_row(bare, plan)
            self.assertIsNone(row_fault(bare, row, 1 + length_of(plan)))
        return plan

    def test_a_few(self):
        self.same(plan_of_numbering(chain(1), (None,)), ())
        self.same(plan_of_numbering(chain(2), [7, None]), (0, (), ()))
        self.same(plan_of_numbering(chain(4), (0, 1, 0, None)), (1, (2, (), ()), (0, (), ())))
        self.same(plan_of_numbering(star(3), (1, 0, None)), (0, (1, (), ()), ()))

    def test_right_numberings_of_trees(self):
        right = 0
        for seed, bare in enumerate(list(all_trees(6)) + [made_tree(7 + k % 5, k) for k in range(60)]):
            self.same(self.check(bare, least_numbering(bare)), plan_told(bare, least_numbering(bare), bare.end, []))
            numbering = made_numbering(bare, Rule(seed), 40)
            if is_right(bare, numbering):
                right += 1
                self.same(self.check(bare, numbering), plan_told(bare, numbering, bare.end, []))
        self.assertGreater(right, 50)

    def test_least_numberings_give_rows_with_the_price(self):
        for bare in list(some_trees(6, 3)) + [made_tree(8, seed) for seed in range(10)]:
            row = plan_to_row(bare, plan_of_numbering(bare, least_numbering(bare)))
            self.assertIsNone(row_fault(bare, row, price_of(bare)))
            self.same(room_of(bare, row), tree_price(bare))

    def test_great_trees(self):
        for bare in great_trees():
            self.check(bare, least_numbering(bare))

    def test_plans_nested_199_deep(self):
        self.same(length_of(self.check(chain(200), (*range(199), None))), 199)
        self.same(length_of(self.check(chain(200), (*range(198, -1, -1), None))), 199)
        self.same(length_of(self.check(star(200), (*range(199), None))), 199)

    def test_errors(self):
        for bare, place in NO_TREES:
            self.fails(NotTree(place), plan_of_numbering, bare, None)
            self.fails(NotTree(place), numbering_of_plan, bare, ())
        for numbering, word in ((None, "form"), ((0, True, None), "form"), ((0, 0, None), "tie")):
            self.fails(BadNumbering(word), plan_of_numbering, chain(3), numbering)


class NumberingOf(Checks):

    def check(self, bare, plan):
        numbering = numbering_of_plan(bare, plan)
        self.assertIsInstance(numbering, tuple)
        self.assertIsNone(numbering_fault(bare, numbering))
        self.assertLess(greatest(numbering), max(length_of(plan), 1))
        told = [None] * len(bare)
        number_told(bare, plan, bare.end, [], told)
        self.same(numbering, tuple(told))
        return numbering

    def test_a_few(self):
        self.same(numbering_of_plan(chain(1), ()), (None,))
        self.same(numbering_of_plan(chain(2), (0, (), ())), (0, None))
        self.same(numbering_of_plan(chain(4), (1, (2, (), ()), (0, (), ()))), (0, 1, 0, None))
        self.same(numbering_of_plan(chain(3), (0, (1, (), ()), ())), (1, 0, None))

    def test_all_plans_of_a_rule(self):
        for seed, bare in enumerate(list(all_trees(6)) + [made_tree(7, k) for k in range(20)]):
            for lazy in (2, 50):
                self.check(bare, made_plan(bare, bare.end, frozenset(), Rule(seed), lazy))

    def test_fillings_outside_the_piece_are_passed_over(self):
        # behind going over to 1 the places 2 and 3 bear on nothing any more
        plan = (1, (2, (), ()), (2, (0, (), ()), ()))
        self.assertIsNone(plan_fault(chain(4), plan))
        self.same(self.check(chain(4), plan), (0, 1, 0, None))

    def test_there_and_back(self):
        for bare in list(some_trees(6, 3)) + list(great_trees()):
            numbering = least_numbering(bare)
            again = numbering_of_plan(bare, plan_of_numbering(bare, numbering))
            self.assertIsNone(numbering_fault(bare, again))
            self.same(greatest(again), greatest(numbering))

    def test_best_plans_give_the_fewest_numbers(self):
        for bare in list(some_trees(6, 3)) + [made_tree(8, seed) for seed in range(10)]:
            self.same(greatest(self.check(bare, best_plan(bare))), tree_price(bare) - 2)

    def test_from_a_kept_row_to_a_row_of_no_more_room(self):
        for seed, bare in enumerate(list(all_trees(5)) + [made_tree(6 + k % 5, k) for k in range(40)]):
            rows = [kept_row(bare, Rule(seed))]
            if len(bare) <= 8:
                rows.append(fewest_moves(bare, price_of(bare)))
            for row in rows:
                numbering = self.check(bare, row_to_plan(bare, row))
                again = plan_to_row(bare, plan_of_numbering(bare, numbering))
                self.assertIsNone(row_fault(bare, again, room_of(bare, row)))

    def test_plans_nested_199_deep(self):
        for numbers in (range(199), range(198, -1, -1)):
            for bare in (chain(200), star(200)):
                numbering = (*numbers, None)
                self.same(numbering_of_plan(bare, plan_of_numbering(bare, numbering)), numbering)
        deep = ()
        for place in range(198):
            deep = (place, (), deep)
        deep = (198, (), deep)
        self.same(greatest(self.check(chain(200), deep)), 198)

    def test_errors(self):
        for plan, word in (((), "early"), ((9, (), ()), "place"), ((1, (0, (), ()), ()), "idle")):
            self.fails(BadPlan(word), numbering_of_plan, chain(3), plan)
        self.fails(BadPlan("early"), numbering_of_plan, binary_tree(2), ())
