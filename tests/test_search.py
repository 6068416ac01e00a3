"""[5.1] to [5.4]: prices by search."""

from helpers import NO_NUMBERS, NO_SEQUENCES, Checks, binary_tree, chain, every_standing, large_bares, mixed, some_bares
from undocells.bares import Bare
from undocells.errors import BadPlaces, BadRoom, Fewer, NoWay, TooMany
from undocells.joining import kept_of_foot, kept_of_shown
from undocells.moves import filled_behind, room_of, row_back, row_fault, standings_of
from undocells.search import (
    fewest_moves, least_way, price_of, reached_standings, ready_price_of, shown_price_of)

DIAMOND = Bare([[], [0], [0], [1, 2]], 3)
NO_ROOMS = (0, 201, -1, *NO_NUMBERS)


def walk(bare, room, first=()):
    """For each standing reached the first of the shortest ways, found by trying all ways in order."""
    ways = {first: ()} if len(first) <= room else {}
    waiting = list(ways)
    for standing in waiting:
        for place in range(len(bare)):
            if set(bare.befores[place]) <= set(standing):
                after = tuple(sorted(set(standing) ^ {place}))
                if len(after) <= room and after not in ways:
                    # breadth first and least place first: the way kept is the first of the shortest
                    ways[after] = ways[standing] + (place,)
                    waiting.append(after)
    return ways


def least_room(bare, wanted):
    """The least room in which a wanted standing is reached, by going through all of them."""
    return min(room for room in range(1, len(bare) + 1) if any(wanted(s) for s in walk(bare, room)))


class Reached(Checks):

    def test_order(self):
        self.same(reached_standings(chain(3), 2), ((), (0,), (1,), (0, 1), (1, 2)))
        self.same(reached_standings(DIAMOND, 2), ((), (0,), (1,), (2,), (0, 1), (0, 2)))
        self.same(reached_standings(chain(1), 1), ((), (0,)))
        self.same(len(reached_standings(DIAMOND, 4)), len(walk(DIAMOND, 4)))

    def test_many_webs(self):
        for bare in some_bares(5, 23):
            for room in range(1, len(bare) + 2):
                want = sorted(walk(bare, room), key=lambda s: (len(s), s))
                self.same(reached_standings(bare, room), tuple(want))

    def test_errors(self):
        for room in NO_ROOMS:
            self.fails(BadRoom(), reached_standings, chain(9), room)
        self.fails(TooMany(8), reached_standings, chain(9), 200)
        self.same(len(reached_standings(chain(8), 200)), len(walk(chain(8), 8)))


class Ways(Checks):

    def test_a_few(self):
        self.same(least_way(chain(3), 3, (), (2,)), (0, 1, 2, 1, 0))
        self.same(least_way(DIAMOND, 4, (), [3]), (0, 1, 2, 3, 1, 2, 0))
        self.same(least_way(DIAMOND, 4, [3], ()), (0, 1, 2, 3, 1, 2, 0))
        self.same(least_way(DIAMOND, 3, [1, 0], [2, 0]), (1, 2))
        self.same(least_way(DIAMOND, 2, [1, 0], [2, 0]), (1, 2))

    def test_no_moves_if_the_standings_are_one_and_fit(self):
        for standing in every_standing(4):
            for room in range(1, 5):
                if len(standing) <= room:
                    self.same(least_way(DIAMOND, room, standing, standing[::-1]), ())
                else:
                    self.fails(NoWay(), least_way, DIAMOND, room, standing, standing)

    def test_all_couples_of_standings(self):
        for bare in some_bares(4, 7, 2):
            for first in every_standing(len(bare)):
                for room in range(1, len(bare) + 1):
                    ways = walk(bare, room, first)
                    for last in every_standing(len(bare)):
                        if last not in ways:
                            self.fails(NoWay(), least_way, bare, room, list(first), last)
                            continue
                        way = least_way(bare, room, first, last)
                        self.same(way, self.first_way(bare, room, first, last))
                        self.same(len(way), len(ways[last]))
                        self.same(len(least_way(bare, room, last, first)), len(way))

    def first_way(self, bare, room, first, last):
        """Of the ways with the fewest moves the first, put together from the end."""
        back = walk(bare, room, last)
        way, standing = (), first
        while standing != last:
            for place in range(len(bare)):
                after = tuple(sorted(set(standing) ^ {place}))
                if set(bare.befores[place]) <= set(standing) and len(after) <= room and (
                        len(back[after]) < len(back[standing])):
                    break
            way, standing = way + (place,), after
        return way

    def test_ways_can_be_done(self):
        for bare in some_bares(5, 41, 5):
            for first in ((), (0,), (1, 0)):
                for last in ((bare.end,), tuple(range(len(bare)))):
                    for room in (3, 4, 5):
                        try:
                            way = least_way(bare, room, first, last)
                        except NoWay:
                            continue
                        self.same(filled_behind(bare, way, first), last)
                        self.assertLessEqual(room_of(bare, way, first), room)
                        self.same(filled_behind(bare, row_back(way), last), tuple(sorted(first)))

    def test_errors(self):
        nine = chain(9)
        for room in NO_ROOMS:
            self.fails(BadRoom(), least_way, nine, room, None, None)
        for thing in NO_SEQUENCES:
            self.fails(BadPlaces(-1), least_way, nine, 1, thing, [99])
            self.fails(BadPlaces(-1), least_way, nine, 1, [1], thing)
        self.fails(BadPlaces(1), least_way, nine, 1, [8, 9], [99])
        self.fails(BadPlaces(2), least_way, nine, 1, [8], [1, 2, 1])
        self.fails(BadPlaces(0), least_way, DIAMOND, 1, [], [True])
        self.fails(TooMany(8), least_way, nine, 1, [8, 7], ())
        self.fails(TooMany(8), least_way, nine, 1, (), ())
        self.fails(NoWay(), least_way, chain(8), 1, [7, 6], ())
        self.same(least_way(chain(8), 8, (), [0]), (0,))


class Prices(Checks):

    def test_a_few(self):
        self.same([price_of(chain(length)) for length in range(1, 9)], [1, 2, 3, 3, 4, 4, 4, 4])
        self.same((price_of(DIAMOND), shown_price_of(DIAMOND), ready_price_of(DIAMOND)), (4, 3, 3))
        self.same((price_of(chain(1)), shown_price_of(chain(1)), ready_price_of(chain(1))), (1, 1, 0))
        self.same((price_of(chain(2)), shown_price_of(chain(2)), ready_price_of(chain(2))), (2, 2, 1))
        self.same((price_of(chain(3)), shown_price_of(chain(3)), ready_price_of(chain(3))), (3, 2, 2))
        self.same(price_of(binary_tree(2)), 5)

    def test_many_webs_by_going_through_all_standings(self):
        for bare in list(some_bares(5, 2)) + list(large_bares(25)):
            need = set(bare.befores[bare.end])
            self.same(price_of(bare), least_room(bare, lambda s: s == (bare.end,)))
            self.same(shown_price_of(bare), least_room(bare, lambda s: bare.end in s))
            ready = least_room(bare, lambda s: need <= set(s)) if need else 0
            self.same(ready_price_of(bare), ready)

    def test_how_the_three_stand_to_one_another(self):
        shown_is_less = 0
        for bare in list(some_bares(5, 1)) + list(large_bares(40)):
            price, shown = price_of(bare), shown_price_of(bare)
            self.same(price, 1 + ready_price_of(bare))
            self.assertIn(price, (shown, shown + 1))
            shown_is_less += shown < price
        self.assertGreater(shown_is_less, 0)

    def test_numbering_does_not_matter(self):
        for bare in some_bares(4, 3):
            self.same(price_of(mixed(bare)), price_of(bare))

    def test_8_and_9_places(self):
        for call in (price_of, shown_price_of, ready_price_of):
            self.assertGreater(call(chain(8)), 0)
            self.fails(TooMany(8), call, chain(9))


class Fewest(Checks):

    def test_a_few(self):
        self.same(fewest_moves(chain(1), 1), (0,))
        self.same(fewest_moves(chain(2), 2), (0, 1, 0))
        self.same(fewest_moves(chain(4), 4), (0, 1, 2, 3, 2, 1, 0))
        self.same(fewest_moves(chain(4), 3), (0, 1, 0, 2, 3, 2, 0, 1, 0))
        self.same(fewest_moves(DIAMOND, 200), (0, 1, 2, 3, 1, 2, 0))

    def test_rows_beside_the_price(self):
        for bare in list(some_bares(5, 2)) + list(large_bares(10)):
            price = price_of(bare)
            for room in range(1, price):
                self.fails(Fewer(room), fewest_moves, bare, room)
            for room in range(price, len(bare) + 2):
                row = fewest_moves(bare, room)
                self.assertIsNone(row_fault(bare, row, room))
                self.same(row, least_way(bare, room, (), (bare.end,)))
                self.same(len(row), len(walk(bare, room)[(bare.end,)]))
            self.same(len(fewest_moves(bare, len(bare))), 2 * len(bare) - 1)

    def test_errors(self):
        for room in NO_ROOMS:
            self.fails(BadRoom(), fewest_moves, chain(9), room)
        self.fails(TooMany(8), fewest_moves, chain(9), 1)
        self.fails(TooMany(8), fewest_moves, chain(9), 200)
        self.fails(Fewer(3), fewest_moves, chain(8), 3)
        self.assertIsNone(row_fault(chain(8), fewest_moves(chain(8), 4), 4))
        self.same(len(fewest_moves(chain(8), 200)), 15)

    def test_from_each_reached_standing_there_is_a_way_back_and_a_way_on(self):
        for bare in some_bares(4, 7):
            for room in range(price_of(bare), len(bare) + 1):
                for standing in reached_standings(bare, room):
                    led = least_way(bare, room, (), standing)
                    self.same(list(standings_of(bare, row_back(led), standing))[-1], ())
                    self.assertLessEqual(room_of(bare, row_back(led), standing), room)
                    on = least_way(bare, room, standing, (bare.end,))
                    self.same(filled_behind(bare, on, standing), (bare.end,))

    def test_prices_of_made_rows(self):
        for bare in some_bares(5, 29):
            kept = fewest_moves(bare, price_of(bare))
            shown = kept[:kept.index(bare.end) + 1]
            self.assertIsNone(row_fault(bare, kept_of_shown(bare, shown), price_of(bare) + 1))
            befores = bare.befores[bare.end]
            foot = least_way(bare, len(bare), (), tuple(p for p in range(len(bare)) if p != bare.end))
            self.assertGreaterEqual(room_of(bare, kept_of_foot(bare, foot)), price_of(bare))
            self.assertLessEqual(len(befores), ready_price_of(bare))
