"""[8.7] and [8.8]: chains and their told rows."""

from helpers import NO_NUMBERS, NO_SEQUENCES, Checks, chain, every_standing
from undocells.chains import (
    chain_bare, chain_move, chain_moves, chain_number, chain_price, chain_standing, longest_chain)
from undocells.errors import BadLength, BadNumber, BadPlaces, BadRoom, NeverStands, TooMany
from undocells.moves import room_of, row_fault, standings_of
from undocells.search import price_of

MOST = 10 ** 30
NO_LENGTHS = (0, -1, MOST + 1, *NO_NUMBERS)
# lengths up to the greatest: powers of 2 and those beside them, and others
GREAT = [2 ** k + d for k in (3, 10, 31, 64, 99) for d in (-1, 0, 1)] + [MOST, MOST - 1, 3 ** 60, 10 ** 29 + 7]


def told_row(length):
    """The told row of the document."""
    if length == 1:
        return (0,)
    half = length // 2
    there = told_row(half)
    return there + tuple(half + place for place in told_row(length - half)) + there[::-1]


def told_price(length):
    cells = 1
    while 2 ** (cells - 1) < length:
        cells += 1
    return cells


def some_numbers(most):
    """Numbers from 0 to most, the ends and others between."""
    return sorted({0, 1, most // 3, most // 2, most * 5 // 7, most - 1, most, *[most * k // 23 for k in range(24)]})


class Prices(Checks):

    def test_bare(self):
        for length in (1, 2, 3, 199, 200):
            self.assertTrue(chain_bare(length) == chain(length))
        for length in (201, 10 ** 30):
            self.fails(TooMany(200), chain_bare, length)
        for length in NO_LENGTHS:
            self.fails(BadLength(), chain_bare, length)

    def test_price(self):
        self.same([chain_price(n) for n in (1, 2, 3, 4, 5, 8, 9, 16, 17)], [1, 2, 3, 3, 4, 4, 5, 5, 6])
        for length in range(1, 9):
            self.same(chain_price(length), price_of(chain(length)))
        for length in [*range(1, 300), *GREAT]:
            self.same(chain_price(length), told_price(length))
        self.same(chain_price(MOST), 101)
        for length in NO_LENGTHS:
            self.fails(BadLength(), chain_price, length)

    def test_longest_chain(self):
        for cells in range(1, 201):
            self.same(longest_chain(cells), 2 ** (cells - 1))
        for cells in range(1, 100):
            self.same(chain_price(longest_chain(cells)), cells)
            self.same(chain_price(longest_chain(cells) + 1), cells + 1)
        for cells in (0, 201, -1, *NO_NUMBERS):
            self.fails(BadRoom(), longest_chain, cells)


class Rows(Checks):

    def test_the_told_row_of_small_lengths_standing_by_standing(self):
        for length in [*range(1, 34), 63, 64, 65, 100, 200]:
            bare, row = chain(length), told_row(length)
            self.assertIsNone(row_fault(bare, row))
            self.same(room_of(bare, row), chain_price(length))
            self.same(chain_moves(length), len(row))
            self.same(tuple(chain_move(length, number) for number in range(len(row))), row)
            standings = list(standings_of(bare, row))
            self.same(len(set(standings)), len(standings))
            for number, standing in enumerate(standings):
                self.same(chain_standing(length, number), standing)
                self.same(chain_number(length, standing), number)
                self.same(chain_number(length, list(standing)[::-1]), number)

    def test_moves(self):
        self.same([chain_moves(n) for n in (1, 2, 3, 4, 8, 16)], [1, 3, 5, 9, 27, 81])
        self.same(chain_moves(2 ** 64), 3 ** 64)
        for length in GREAT:
            # the two halves of a length, told by other words
            half = length // 2
            self.same(chain_moves(length), 2 * chain_moves(half) + chain_moves(length - half))

    def test_standings_that_are_never_met(self):
        for length in range(1, 11):
            met = set(standings_of(chain(length), told_row(length)))
            for standing in every_standing(length):
                if standing not in met:
                    self.fails(NeverStands(), chain_number, length, standing)
                    self.fails(NeverStands(), chain_number, length, standing[::-1])
        self.fails(NeverStands(), chain_number, MOST, [0, 1, 2, 3, 4])
        # a place of the second half is filled while the last one of the first half is
        self.fails(NeverStands(), chain_number, MOST, [MOST // 2, MOST - 1])
        self.assertIsInstance(chain_number(MOST, [MOST // 2, MOST // 2 - 1]), int)

    def test_great_lengths_at_once(self):
        for length in GREAT:
            moves = chain_moves(length)
            self.same(chain_standing(length, 0), ())
            self.same(chain_standing(length, moves), (length - 1,))
            self.same(chain_move(length, 0), 0)
            self.same(chain_move(length, moves - 1), 0)
            for number in some_numbers(moves):
                standing = chain_standing(length, number)
                self.same(standing, tuple(sorted(set(standing))))
                self.assertLessEqual(len(standing), chain_price(length))
                self.same(chain_number(length, standing), number)
                if number < moves:
                    place, after = chain_move(length, number), chain_standing(length, number + 1)
                    self.same(set(standing) ^ set(after), {place})
                    self.assertTrue(place == 0 or place - 1 in standing)

    def test_errors_of_lengths(self):
        for length in NO_LENGTHS:
            self.fails(BadLength(), chain_moves, length)
            self.fails(BadLength(), chain_move, length, None)
            self.fails(BadLength(), chain_standing, length, None)
            self.fails(BadLength(), chain_number, length, None)

    def test_errors_of_numbers(self):
        for length in (1, 2, 7, MOST):
            moves = chain_moves(length)
            for number in (-1, moves + 1, moves * 2, *NO_NUMBERS):
                self.fails(BadNumber(), chain_move, length, number)
                self.fails(BadNumber(), chain_standing, length, number)
            self.fails(BadNumber(), chain_move, length, moves)
            self.same(chain_standing(length, moves), (length - 1,))

    def test_errors_of_standings(self):
        for thing in NO_SEQUENCES:
            self.fails(BadPlaces(-1), chain_number, 4, thing)
        for length in (4, MOST):
            for thing in (length, -1, *NO_NUMBERS):
                self.fails(BadPlaces(0), chain_number, length, [thing])
                self.fails(BadPlaces(2), chain_number, length, (3, 0, thing, thing))
            self.fails(BadPlaces(1), chain_number, length, [2, 2, length])
            self.fails(BadPlaces(3), chain_number, length, [2, 0, 1, 2])
        self.same(chain_number(4, []), 0)
        self.same(chain_number(4, [3]), 9)
