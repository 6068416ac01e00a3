"""[4.1] to [4.4]: rows of moves."""

from helpers import NO_NUMBERS, NO_SEQUENCES, Checks, Rule, chain, rows_within, some_bares
from undocells.bares import Bare, check_places, struck_arrow
from undocells.errors import BadBare, BadPlaces, BadRoom, BadRow, BadWanted, TooMany
from undocells.moves import (
    check_room, check_row, filled_behind, room_of, row_back, row_fault, standings_of)

DIAMOND = Bare([[], [0], [0], [1, 2]], 3)
KEPT = (0, 1, 2, 3, 2, 1, 0)
WANTED = ("kept", "shown", "open")


def listed(bare, row, filled=()):
    return list(standings_of(bare, row, filled))


def plain_standings(row, filled=()):
    """The standings by the words of the document alone."""
    standing = set(filled)
    yield tuple(sorted(standing))
    for place in row:
        standing ^= {place}
        yield tuple(sorted(standing))


class Rooms(Checks):

    def test_rooms_from_1_to_200(self):
        for room in (1, 2, 199, 200):
            self.same(check_room(room), room)
        for room in (0, 201, -1, 10 ** 40, *NO_NUMBERS):
            self.fails(BadRoom(), check_room, room)


class Standings(Checks):

    def test_standings(self):
        self.same(listed(DIAMOND, list(KEPT)),
                  [(), (0,), (0, 1), (0, 1, 2), (0, 1, 2, 3), (0, 1, 3), (0, 3), (3,)])
        self.same(listed(DIAMOND, ()), [()])

    def test_other_beginnings(self):
        self.same(listed(DIAMOND, [3, 3], [2, 1]), [(1, 2), (1, 2, 3), (1, 2)])
        self.same(listed(DIAMOND, [0, 1, 2], (2, 1)), [(1, 2), (0, 1, 2), (0, 2), (0,)])
        self.same(room_of(DIAMOND, [0, 1, 2], (2, 1)), 3)
        self.same(filled_behind(DIAMOND, [0, 1, 2], (2, 1)), (0,))

    def test_the_room_counts_the_beginning(self):
        self.same(room_of(DIAMOND, ()), 0)
        self.same(room_of(DIAMOND, (), (0, 1, 2)), 3)
        self.same(room_of(DIAMOND, (3, 3), (0, 1, 2)), 4)
        self.same(room_of(DIAMOND, (2, 1), (0, 1, 2)), 3)
        self.same(room_of(DIAMOND, KEPT), 4)

    def test_filled_behind(self):
        self.same(filled_behind(DIAMOND, KEPT), (3,))
        self.same(filled_behind(DIAMOND, []), ())
        self.same(filled_behind(DIAMOND, (), [3, 0]), (0, 3))

    def test_check_row_returns_a_tuple(self):
        self.same(check_row(DIAMOND, list(KEPT)), KEPT)
        self.same(check_row(DIAMOND, [], [1]), ())

    def test_the_standings_are_yielded_one_by_one(self):
        source = standings_of(DIAMOND, KEPT)
        self.same(next(source), ())
        self.same(next(source), (0,))

    def test_made_rows(self):
        for seed, bare in enumerate(some_bares(5, 7)):
            row = rows_within(bare, len(bare), Rule(seed), 12)
            standings = list(plain_standings(row))
            self.same(listed(bare, row), standings)
            self.same(room_of(bare, row), max(len(standing) for standing in standings))
            self.same(filled_behind(bare, row), standings[-1])

    def test_every_move_of_every_standing_of_small_webs(self):
        for bare in some_bares(4, 3):
            for number in range(1 << len(bare)):
                filled = [place for place in range(len(bare)) if number >> place & 1]
                for place in range(len(bare)):
                    if set(bare.befores[place]) <= set(filled):
                        after = tuple(sorted(set(filled) ^ {place}))
                        self.same(filled_behind(bare, [place], filled), after)
                    else:
                        self.fails(BadRow(0, "befores"), check_row, bare, [place], filled)


class Errors(Checks):
    calls = (check_row, listed, room_of, filled_behind)

    def all_fail(self, error, *args):
        for call in self.calls:
            self.fails(error, call, *args)

    def test_rows_that_are_no_sequence(self):
        for row in NO_SEQUENCES:
            self.all_fail(BadRow(-1, "place"), DIAMOND, row, [9])

    def test_20000_and_20001_moves(self):
        row = (0,) * 20000
        self.same(check_row(DIAMOND, row), row)
        self.same((room_of(DIAMOND, row), filled_behind(DIAMOND, row), len(listed(DIAMOND, row))), (1, (), 20001))
        self.all_fail(TooMany(20000), DIAMOND, row + (0,))
        self.all_fail(TooMany(20000), DIAMOND, [9] * 20001, [9])

    def test_filled_places(self):
        for filled in NO_SEQUENCES:
            self.all_fail(BadPlaces(-1), DIAMOND, [9], filled)
        self.all_fail(BadPlaces(1), DIAMOND, [9], [0, 4])
        self.all_fail(BadPlaces(2), DIAMOND, [9], [0, 1, 0])
        self.all_fail(BadPlaces(0), DIAMOND, [], [True])

    def test_moves_at_no_place(self):
        for thing in (4, -1, *NO_NUMBERS):
            self.all_fail(BadRow(1, "place"), DIAMOND, [0, thing, 3])

    def test_moves_that_want_a_before(self):
        self.all_fail(BadRow(0, "befores"), DIAMOND, [1, 9])
        self.all_fail(BadRow(2, "befores"), DIAMOND, [0, 1, 3])
        self.all_fail(BadRow(3, "befores"), DIAMOND, [0, 1, 0, 1])
        self.all_fail(BadRow(0, "befores"), DIAMOND, [3], [1])
        self.all_fail(BadRow(1, "befores"), DIAMOND, [0, 3, 9], [2])

    def test_the_error_comes_ahead_of_the_first_standing(self):
        source = standings_of(DIAMOND, [0, 1, 9])
        with self.assertRaises(BadRow):
            next(source)


class Faults(Checks):

    def test_right_rows(self):
        self.assertIsNone(row_fault(DIAMOND, KEPT))
        self.assertIsNone(row_fault(DIAMOND, list(KEPT), 4, wanted="kept"))
        self.assertIsNone(row_fault(DIAMOND, KEPT[:4], 4, wanted="shown"))
        self.assertIsNone(row_fault(DIAMOND, KEPT, wanted="shown"))
        self.assertIsNone(row_fault(DIAMOND, KEPT[:2], 2, wanted="open"))
        self.assertIsNone(row_fault(DIAMOND, (), 1, wanted="open"))
        self.assertIsNone(row_fault(chain(1), (0,), 1))

    def test_each_word(self):
        self.same(row_fault(DIAMOND, [0, 4]), "place")
        self.same(row_fault(DIAMOND, [0, True]), "place")
        self.same(row_fault(DIAMOND, [0, 3]), "befores")
        self.same(row_fault(DIAMOND, KEPT, 3), "room")
        self.same(row_fault(DIAMOND, KEPT[:-1]), "kept")
        self.same(row_fault(DIAMOND, KEPT + (3,), wanted="shown"), "befores")
        self.same(row_fault(DIAMOND, KEPT[:3], wanted="shown"), "shown")
        self.same(row_fault(DIAMOND, ()), "kept")
        self.same(row_fault(DIAMOND, (), wanted="shown"), "shown")
        self.same(row_fault(DIAMOND, (0, 1, 2, 3, 3), wanted="shown"), "shown")

    def test_no_sequence_or_too_long_is_place(self):
        for row in NO_SEQUENCES:
            for wanted in WANTED:
                self.same(row_fault(DIAMOND, row, wanted=wanted), "place")
        self.same(row_fault(DIAMOND, (0,) * 20001, wanted="open"), "place")
        self.assertIsNone(row_fault(DIAMOND, (0,) * 20000, wanted="open"))
        self.same(row_fault(DIAMOND, (1,) * 20001), "place")

    def test_the_first_of_two_faults(self):
        self.same(row_fault(DIAMOND, [1, 4], 1), "befores")
        self.same(row_fault(DIAMOND, [0, 4, 3], 1), "place")
        self.same(row_fault(DIAMOND, [0, 1, 4], 1), "place")
        self.same(row_fault(DIAMOND, [0, 1, 2], 2), "room")
        self.same(row_fault(DIAMOND, [0, 1, 2, 3], 3, wanted="shown"), "room")
        self.same(row_fault(DIAMOND, [0, 1], 1, wanted="shown"), "room")

    def test_rooms_and_what_is_wanted_come_first(self):
        for room in (0, 201, *[thing for thing in NO_NUMBERS if thing is not None]):
            self.fails(BadRoom(), row_fault, DIAMOND, None, room, wanted="nothing")
        for wanted in ("", "Kept", None, True, 1, ("kept",), ["kept"], "keptshown", "room"):
            self.fails(BadWanted(), row_fault, DIAMOND, None, wanted=wanted)
            self.fails(BadWanted(), row_fault, DIAMOND, KEPT, 4, wanted=wanted)

    def test_rooms_beside_the_row(self):
        for room in range(1, 201):
            self.same(row_fault(DIAMOND, KEPT, room), "room" if room < 4 else None)

    def test_made_rows(self):
        for seed, bare in enumerate(some_bares(4, 2)):
            row = rows_within(bare, len(bare), Rule(seed), seed % 9)
            last = list(plain_standings(row))[-1]
            self.same(row_fault(bare, row), None if last == (bare.end,) else "kept")
            self.same(row_fault(bare, row, wanted="shown"), None if bare.end in last else "shown")
            self.assertIsNone(row_fault(bare, row, max(1, room_of(bare, row)), wanted="open"))


class Turning(Checks):

    def test_row_back(self):
        self.same(row_back([0, 1, 3]), (3, 1, 0))
        self.same(row_back(()), ())
        self.same(row_back(["x", None]), (None, "x"))

    def test_a_row_turned_about_leads_back_through_the_same_standings(self):
        for seed, bare in enumerate(some_bares(5, 9)):
            row = rows_within(bare, len(bare), Rule(seed + 1), 14)
            there = listed(bare, row)
            self.same(listed(bare, row_back(row), there[-1]), there[::-1])

    def test_two_rows_end_alike_exactly_if_each_place_is_moved_evenly_often_in_both_or_oddly_often(self):
        for bare in some_bares(4, 11, 2):
            ends = {}
            for seed in range(30):
                row = rows_within(bare, len(bare), Rule(seed), 1 + seed % 7)
                odd = tuple(row.count(place) % 2 for place in range(len(bare)))
                self.same(ends.setdefault(odd, filled_behind(bare, row)), filled_behind(bare, row))
            self.same(len(set(ends.values())), len(ends))

    def test_a_row_stays_a_row_if_arrows_are_struck(self):
        for seed, bare in enumerate(some_bares(5, 13)):
            row = rows_within(bare, len(bare), Rule(seed), 12)
            for place in range(len(bare)):
                for before in bare.befores[place]:
                    try:
                        looser = struck_arrow(bare, place, before)
                    except BadBare:
                        continue
                    self.same(listed(looser, row), listed(bare, row))

    def test_filled_places_may_come_in_any_order(self):
        self.same(listed(DIAMOND, [], [2, 0, 1]), [check_places(DIAMOND, [1, 2, 0])])
