"""[14.1] to [14.3]: free places, the rows that they allow, and how few are enough."""

from itertools import combinations

from helpers import (NO_NUMBERS, NO_SEQUENCES, Checks, Rule, binary_tree, chain, kept_row, large_bares, mixed_bares,
                     rows_within, some_bares)
from undocells.bares import Bare
from undocells.errors import BadFree, BadLength, BadRoom, BadRow, TooMany
from undocells.freeplaces import (chain_free, check_free, fewest_free, free_peak, free_price, free_row, used_free)
from undocells.moves import row_fault
from undocells.rounds import still_needed
from undocells.search import price_of


def lots(bare):
    """All lots of places but the end, those with fewer places first, then in order."""
    places = [place for place in range(len(bare)) if place != bare.end]
    for many in range(len(places) + 1):
        yield from combinations(places, many)


def peak_along(row, free):
    """The greatest number of filled places outside free."""
    filled, peak = set(), 0
    for place in row:
        filled ^= {place}
        peak = max(peak, len(filled - set(free)))
    return peak


def told_price(bare, free):
    """The least peak of all kept rows, found by trying all standings at each peak."""
    for room in range(len(bare) + 1):
        reached, waiting = {frozenset()}, [frozenset()]
        while waiting:
            standing = waiting.pop()
            for place in range(len(bare)):
                after = standing ^ {place}
                if (set(bare.befores[place]) <= standing and after not in reached
                        and len(after - set(free)) <= room):
                    reached.add(after)
                    waiting.append(after)
        if frozenset([bare.end]) in reached:
            return room
    raise AssertionError("no kept row")


class Free(Checks):

    def test_they_are_returned_in_order(self):
        bare = chain(5)
        self.same(check_free(bare, [3, 0, 1]), (0, 1, 3))
        self.same((check_free(bare, ()), check_free(bare, []), check_free(bare, (3, 2, 1, 0))), ((), (), (0, 1, 2, 3)))
        self.same(check_free(Bare([[1], []], 0), [1]), (1,))

    def test_wrong_ones_in_every_function(self):
        for bare in (chain(5), chain(9)):
            calls = (check_free, lambda bare, free: free_peak(bare, free, None), free_price, used_free, free_row)
            for call in calls:
                for free in NO_SEQUENCES:
                    self.fails(BadFree(-1), call, bare, free)
                for bad in (len(bare), -1, bare.end, 0, *NO_NUMBERS):
                    self.fails(BadFree(1), call, bare, [0, bad, bad])
                self.fails(BadFree(2), call, bare, (1, 2, 1, 99))


class Peaks(Checks):

    def test_of_any_row(self):
        for seed, bare in enumerate(mixed_bares(4)):
            rule = Rule(seed)
            for row in (rows_within(bare, 4, rule, 20), kept_row(bare, rule), ()):
                for free in lots(bare):
                    self.same(free_peak(bare, free[::-1], tuple(row)), peak_along(row, free))

    def test_every_place_free_but_the_end(self):
        self.same(free_peak(chain(4), (0, 1, 2), (0, 1, 2, 3, 2, 1, 0)), 1)
        self.same(free_peak(chain(4), [2, 1, 0], [0, 1, 2, 1]), 0)
        self.same(free_peak(chain(4), (), [0, 1, 2, 3, 2, 1, 0]), 4)
        self.same(free_peak(chain(4), (1,), [0, 1, 0, 0, 0]), 1)

    def test_wrong_rows(self):
        bare = chain(4)
        for row in NO_SEQUENCES:
            self.fails(BadRow(-1, "place"), free_peak, bare, (1,), row)
        self.fails(TooMany(20000), free_peak, bare, (1,), (0,) * 20001)
        self.same(free_peak(bare, (), (0,) * 20000), 1)
        self.fails(BadRow(1, "place"), free_peak, bare, (1,), [0, 4])
        self.fails(BadRow(1, "befores"), free_peak, bare, (1,), [0, 2])
        # a web of any size
        self.same(free_peak(chain(150), tuple(range(149)), tuple(range(150))), 1)


def webs():
    yield from mixed_bares(4)
    yield from some_bares(5, 41, 5)
    yield from large_bares(4, (6,))


class Prices(Checks):

    def test_the_least_peak_of_all_kept_rows(self):
        for bare in webs():
            for free in lots(bare):
                told = told_price(bare, free)
                self.same(free_price(bare, free[::-1]), told)
                row = free_row(bare, free)
                self.assertIsInstance(row, tuple)
                self.same(row_fault(bare, row), None)
                self.same(free_peak(bare, free, row), told)
                self.same(peak_along(row, free), told)

    def test_it_is_what_the_game_tells(self):
        for bare in webs():
            for free in lots(bare):
                least = None
                for many in range(len(free) + 1):
                    for lot in combinations(free, many):
                        most = max([still_needed(bare, None, lot)]
                                   + [still_needed(bare, x, [y for y in lot if y != x]) for x in lot])
                        least = most if least is None else min(least, most)
                self.same(free_price(bare, free), 1 + least)
                self.assertLessEqual(price_of(bare), free_price(bare, free) + len(free))

    def test_no_free_place_and_every_one(self):
        for bare in (*mixed_bares(3), *large_bares(12), chain(8), binary_tree(2)):
            self.same(free_price(bare, ()), price_of(bare))
            self.same(free_price(bare, [place for place in range(len(bare)) if place != bare.end]), 1)
            self.same(used_free(bare, ()), ())

    def test_the_lot_that_is_enough(self):
        for bare in webs():
            prices = {lot: told_price(bare, lot) for lot in lots(bare)}
            for free in lots(bare):
                told = next(lot for lot in lots(bare) if set(lot) <= set(free) and prices[lot] == prices[free])
                self.same(used_free(bare, free[::-1]), told)

    def test_the_fewest_free_places_for_a_room(self):
        for bare in webs():
            prices = {lot: told_price(bare, lot) for lot in lots(bare)}
            for room in (1, 2, 3, 4, 5, 6, 200):
                self.same(fewest_free(bare, room), next(lot for lot in lots(bare) if prices[lot] <= room))

    def test_webs_of_8_places_and_of_9(self):
        for bare in (chain(8), *large_bares(2, (8,))):
            everything = [place for place in range(8) if place != bare.end]
            for free in ((), everything[:3], everything[2:]):
                price = told_price(bare, free)
                self.same(free_price(bare, free), price)
                self.same(free_peak(bare, free, free_row(bare, free)), price)
                used = used_free(bare, free)
                self.same(told_price(bare, used), price)
                self.assertLessEqual(set(used), set(free))
            for room in (1, 2, 3):
                self.assertLessEqual(told_price(bare, fewest_free(bare, room)), room)
        for call in (free_price, used_free, free_row):
            self.fails(TooMany(8), call, chain(9), (0, 1))
            self.fails(BadFree(0), call, chain(9), (9,))
        self.fails(TooMany(8), fewest_free, chain(9), 3)

    def test_wrong_rooms(self):
        for bare in (chain(3), chain(9)):
            for room in (0, 201, -1, *NO_NUMBERS):
                self.fails(BadRoom(), fewest_free, bare, room)


class Chains(Checks):

    def test_as_the_search_tells(self):
        for length in range(1, 9):
            for room in range(1, 6):
                self.same(chain_free(length, room), len(fewest_free(chain(length), room)))

    def test_the_least_that_is_enough(self):
        self.same(chain_free(9, 2), 4)
        for length in (*range(1, 70), 10 ** 9, 10 ** 30 - 1, 10 ** 30, 2 ** 99, 2 ** 99 + 1):
            for room in (*range(1, 9), 30, 99, 100, 101, 199, 200):
                told = chain_free(length, room)
                self.assertGreaterEqual(told, 0)
                self.assertGreaterEqual((told + 1) * 2 ** (room - 1), length)
                if told:
                    self.assertLess(told * 2 ** (room - 1), length)
        self.same((chain_free(10 ** 30, 1), chain_free(1, 1), chain_free(10 ** 30, 200)), (10 ** 30 - 1, 0, 0))

    def test_wrong_arguments_in_their_order(self):
        for length in (0, -1, 10 ** 30 + 1, *NO_NUMBERS):
            self.fails(BadLength(), chain_free, length, None)
        for room in (0, 201, *NO_NUMBERS):
            self.fails(BadRoom(), chain_free, 10 ** 30, room)
