"""[6.9] and [6.10]: plans made of rows."""

from helpers import (
    NO_SEQUENCES, Checks, Rule, binary_tree, chain, kept_row, large_bares, rows_within, shown_row, some_bares)
from test_plans import length_of
from undocells.bares import Bare
from undocells.errors import BadRow, NotKept, TooMany
from undocells.moves import room_of, standings_of
from undocells.orderly import filling_orders, row_to_plan, standing_plans
from undocells.plans import best_plan, plan_fault, plan_to_row
from undocells.rounds import still_needed
from undocells.search import fewest_moves, price_of

DIAMOND = Bare([[], [0], [0], [1, 2]], 3)


def orders_told(row):
    """For each standing the places by the time of their last move, which filled them."""
    orders = [()]
    for count in range(1, len(row) + 1):
        ahead = row[:count]
        filled = [place for place in set(ahead) if ahead.count(place) % 2]
        orders.append(tuple(sorted(filled, key=lambda place: max(k for k in range(count) if row[k] == place))))
    return tuple(orders)


def star(leaves):
    return Bare([[] for _ in range(leaves)] + [list(range(leaves))], leaves)


class Orders(Checks):

    def test_a_few(self):
        self.same(filling_orders(chain(1), ()), ((),))
        self.same(filling_orders(DIAMOND, []), ((),))
        self.same(filling_orders(DIAMOND, [0, 2, 1, 2, 2]), ((), (0,), (0, 2), (0, 2, 1), (0, 1), (0, 1, 2)))
        self.same(filling_orders(DIAMOND, (0, 0, 0)), ((), (0,), (), (0,)))

    def test_many_rows(self):
        for seed, bare in enumerate(list(some_bares(5, 3)) + list(large_bares(10, (7, 9, 12)))):
            for room in (2, len(bare)):
                row = rows_within(bare, room, Rule(seed), 30)
                orders = filling_orders(bare, row)
                self.same(orders, orders_told(row))
                self.same([tuple(sorted(order)) for order in orders], list(standings_of(bare, row)))

    def test_20000_moves_of_any_room(self):
        row = list(range(199)) * 100
        self.same(len(filling_orders(star(199), row)), 19901)
        self.same(len(filling_orders(chain(1), [0] * 20000)), 20001)

    def test_errors(self):
        for call in (filling_orders, standing_plans):
            for thing in NO_SEQUENCES:
                self.fails(BadRow(-1, "place"), call, DIAMOND, thing)
            self.fails(TooMany(20000), call, chain(1), [9] * 20001)
            self.fails(BadRow(1, "place"), call, DIAMOND, [0, True, 3])
            self.fails(BadRow(1, "befores"), call, DIAMOND, (0, 3, 9))


class Plans(Checks):

    def check_plans(self, bare, row):
        room = room_of(bare, row)
        plans = standing_plans(bare, row)
        self.same([tuple(place for place, _ in couples) for couples in plans], list(filling_orders(bare, row)))
        for couples in set(plans):
            self.assertIsInstance(couples, tuple)
            ahead = ()
            for index, (place, plan) in enumerate(couples, 1):
                self.assertIsNone(plan_fault(bare, plan, place, ahead))
                self.assertLessEqual(length_of(plan), room - index)
                ahead += (place,)

    def test_a_few(self):
        self.same(standing_plans(chain(1), ()), ((),))
        self.same(standing_plans(chain(3), [0, 1]), ((), ((0, ()),), ((0, ()), (1, ()))))
        self.same(standing_plans(chain(3), [0, 1, 0]), ((), ((0, ()),), ((0, ()), (1, ())), ((1, (0, (), ())),)))

    def test_all_rows_of_a_rule_kept_or_not(self):
        for seed, bare in enumerate(list(some_bares(5, 1)) + list(large_bares(40, (6, 8, 9, 11)))):
            rule = Rule(seed)
            self.check_plans(bare, kept_row(bare, rule))
            for room in range(1, len(bare) + 1):
                self.check_plans(bare, rows_within(bare, room, rule, 40))

    def test_shown_rows_and_rows_with_the_price(self):
        for seed, bare in enumerate(list(some_bares(5, 7)) + list(large_bares(10))):
            self.check_plans(bare, shown_row(bare, Rule(seed)))
            self.check_plans(bare, fewest_moves(bare, price_of(bare)))

    def test_webs_of_many_places(self):
        for bare in (chain(40), binary_tree(4)):
            for room in (3, 6, 12):
                self.check_plans(bare, rows_within(bare, room, Rule(room), 300))

    def test_long_rows(self):
        bare = chain(11)
        row = rows_within(bare, 12, Rule(1), 20000)
        self.same(len(row), 20000)
        room = room_of(bare, row)
        plans = standing_plans(bare, row)
        self.same(len(plans), 20001)
        for couples in plans[::400]:
            for index, (place, plan) in enumerate(couples):
                self.assertIsNone(plan_fault(bare, plan, place, [other for other, _ in couples[:index]]))
                self.assertLessEqual(length_of(plan), room - index - 1)

    def test_rooms_12_and_13(self):
        row = tuple(range(12))
        self.check_plans(star(20), row)
        self.check_plans(star(20), row + row[::-1] + row)
        self.fails(TooMany(12), standing_plans, star(20), row + (12,))
        self.fails(TooMany(12), standing_plans, star(20), row + (12,) + row)
        self.fails(BadRow(13, "befores"), standing_plans, star(20), row + (12, 20))
        self.same(len(filling_orders(star(20), row + (12,))), 14)


class RowPlans(Checks):

    def check_plan(self, bare, row):
        plan = row_to_plan(bare, row)
        self.assertIsNone(plan_fault(bare, plan))
        self.assertLessEqual(length_of(plan), room_of(bare, row) - 1)
        self.assertLessEqual(room_of(bare, plan_to_row(bare, plan)), room_of(bare, row))
        return plan

    def test_a_few(self):
        self.same(row_to_plan(chain(1), [0]), ())
        self.same(row_to_plan(chain(1), [0, 0, 0]), ())
        self.same(row_to_plan(chain(2), (0, 1, 0)), (0, (), ()))

    def test_all_kept_rows_of_a_rule(self):
        for seed, bare in enumerate(list(some_bares(5, 1)) + list(large_bares(40, (6, 8, 9, 11)))):
            for times in range(3):
                self.check_plan(bare, kept_row(bare, Rule(seed + 1000 * times)))

    def test_rows_with_the_price_give_best_plans(self):
        for bare in list(some_bares(5, 3)) + list(large_bares(20)):
            for room in range(price_of(bare), len(bare) + 1):
                plan = self.check_plan(bare, fewest_moves(bare, room))
                self.assertGreaterEqual(length_of(plan), still_needed(bare))

    def test_rows_of_plans(self):
        for bare in list(some_bares(5, 5)) + list(large_bares(10)):
            self.check_plan(bare, plan_to_row(bare, best_plan(bare)))

    def test_rooms_12_and_13(self):
        self.check_plan(star(11), [*range(12), *range(11)])
        self.fails(TooMany(12), row_to_plan, star(12), [*range(13), *range(12)])
        self.check_plan(chain(40), plan_to_row(chain(40), self.halved(0, 39)))

    def halved(self, low, high):
        """A plan for the chain's places from low to high, high being asked."""
        if low == high:
            return ()
        middle = (low + high) // 2
        return (middle, self.halved(middle + 1, high), self.halved(low, middle))

    def test_not_kept(self):
        for thing in NO_SEQUENCES:
            self.fails(NotKept("place"), row_to_plan, DIAMOND, thing)
        self.fails(NotKept("place"), row_to_plan, chain(1), [0] * 20001)
        self.fails(NotKept("place"), row_to_plan, DIAMOND, [0, 9])
        self.fails(NotKept("befores"), row_to_plan, DIAMOND, [1])
        self.fails(NotKept("kept"), row_to_plan, DIAMOND, ())
        self.fails(NotKept("kept"), row_to_plan, DIAMOND, [0, 1, 2, 3])
        self.fails(NotKept("kept"), row_to_plan, star(12), list(range(13)))
