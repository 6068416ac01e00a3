"""[10.1] to [10.4]: rows of moves placed in cells, and their holdings."""

import inspect

from helpers import NO_NUMBERS, NO_SEQUENCES, Checks, Rule, chain, kept_row, large_bares, rows_within, some_bares
from undocells.bares import Bare
from undocells.cells import (cells_needed, end_cell, holdings_of, last_holding, placed_back, placed_fault, placed_row)
from undocells.errors import BadHeld, BadPlaced, BadRow, NotHeld, TooMany
from undocells.moves import room_of, standings_of

NO_COUPLES = (None, 5, "01", [0, 1], (), (0,), (0, 1, 2), (True, 1), (0, True), ("0", 1), (0, "1"), (-1, 0), (9, 0),
              (0, -1), (0, 200), (0, 1.0), ((0, 1), 1))


def webs():
    yield from some_bares(5, 97)
    yield from large_bares(40)


def placed_by(bare, rule, most, cells, held=()):
    """A placed row by a rule, and its holdings: it begins with the held couples."""
    where = dict(held)
    placed, along = [], [tuple(sorted(where.items()))]
    for _ in range(most):
        empty = [cell for cell in cells if cell not in where.values()]
        moves = [(place, where[place]) for place in where if set(bare.befores[place]) <= set(where)]
        moves += [(place, rule.one_of(empty)) for place in range(len(bare))
                  if place not in where and empty and set(bare.befores[place]) <= set(where)]
        if not moves:
            break
        place, cell = rule.one_of(sorted(moves))
        if place in where:
            del where[place]
        else:
            where[place] = cell
        placed.append((place, cell))
        along.append(tuple(sorted(where.items())))
    return tuple(placed), along


def some_held(bare, rule, cells):
    """Any places in unlike cells, in any order."""
    held = []
    for place in range(len(bare)):
        cell = rule.one_of(cells)
        if rule.below(3) == 0 and cell not in [other for _, other in held]:
            held.insert(rule.below(len(held) + 1), (place, cell))
    return held


class Placed(Checks):

    def test_each_place_takes_the_lowest_empty_cell(self):
        bare = Bare([[], [], [0, 1], [2]], 3)
        self.same(placed_row(bare, (0, 1, 2, 1, 3, 1, 2, 0)),
                  ((0, 0), (1, 1), (2, 2), (1, 1), (3, 1), (1, 3), (2, 2), (0, 0)))
        self.same(placed_row(bare, [1, 0, 1, 1, 0, 0]), ((1, 0), (0, 1), (1, 0), (1, 0), (0, 1), (0, 1)))
        self.same(placed_row(bare, ()), ())

    def test_it_needs_just_the_room_of_the_row(self):
        for seed, bare in enumerate(webs()):
            for row in (kept_row(bare, Rule(seed)), rows_within(bare, 4, Rule(seed), 30)):
                placed = placed_row(bare, row)
                self.same(tuple(place for place, _ in placed), tuple(row))
                self.same(cells_needed(placed), room_of(bare, row))
                holdings = list(holdings_of(bare, placed))
                self.same([tuple(place for place, _ in holding) for holding in holdings], list(standings_of(bare, row)))
                filled = {}
                for place, cell in placed:
                    if place in filled:
                        self.assertEqual(filled.pop(place), cell)
                    else:
                        self.assertEqual(cell, min(set(range(10)) - set(filled.values())))
                        filled[place] = cell

    def test_200_cells(self):
        bare = Bare([()] * 199 + [tuple(range(199))], 199)
        row = tuple(range(200))
        self.same(placed_row(bare, row), tuple((k, k) for k in range(200)))
        self.same(placed_fault(bare, placed_row(bare, row)), None)

    def test_it_raises_as_check_row(self):
        bare = chain(3)
        for row in NO_SEQUENCES:
            self.fails(BadRow(-1, "place"), placed_row, bare, row)
        self.fails(BadRow(1, "place"), placed_row, bare, [0, 3])
        self.fails(BadRow(1, "befores"), placed_row, bare, [0, 2])
        self.fails(TooMany(20000), placed_row, bare, (0,) * 20001)
        self.same(placed_row(bare, (0,) * 20000), ((0, 0),) * 20000)


class Holdings(Checks):

    def test_it_is_a_generator(self):
        self.assertTrue(inspect.isgeneratorfunction(holdings_of))

    def test_they_are_told_behind_each_move_and_back(self):
        for seed, bare in enumerate(webs()):
            rule = Rule(seed)
            cells = rule.one_of(((0, 1, 2, 3), (0, 199), (7, 3, 198, 199, 100), tuple(range(12))))
            held = some_held(bare, rule, cells) if seed % 3 else []
            placed, along = placed_by(bare, rule, 25, cells, held)
            self.same(list(holdings_of(bare, placed, held)), along)
            self.same(list(holdings_of(bare, list(placed), tuple(held))), along)
            self.same(last_holding(bare, placed, held), along[-1])
            self.same(placed_fault(bare, placed, held), None)
            self.same(placed_back(placed), placed[::-1])
            self.same(placed_back(list(placed)), placed[::-1])
            self.same(list(holdings_of(bare, placed_back(placed), along[-1][::-1])), along[::-1])
            used = [cell for _, cell in list(placed) + held]
            self.same(cells_needed(placed, held), max(used, default=-1) + 1)
            if not held:
                self.same(list(holdings_of(bare, placed)), along)

    def test_nothing(self):
        bare = chain(2)
        self.same((list(holdings_of(bare, ())), last_holding(bare, []), placed_back(())), ([()], (), ()))
        self.same((cells_needed(()), cells_needed([], [])), (0, 0))
        self.same((cells_needed((), ((1, 199),)), cells_needed([(1, 4)], [(0, 3)])), (200, 5))
        self.same(list(holdings_of(bare, (), [(1, 0), (0, 5)])), [((0, 5), (1, 0))])

    def test_what_is_passed_is_copied(self):
        bare = chain(3)
        placed, held = [(1, 1), (2, 2)], [(0, 0)]
        along = holdings_of(bare, placed, held)
        self.same(next(along), ((0, 0),))
        placed.clear()
        held.append(None)
        self.same(list(along), [((0, 0), (1, 1)), ((0, 0), (1, 1), (2, 2))])

    def test_what_is_wrong_with_the_held(self):
        bare = chain(3)
        calls = (lambda placed, held: list(holdings_of(bare, placed, held)),
                 lambda placed, held: placed_fault(bare, placed, held),
                 lambda placed, held: last_holding(bare, placed, held))
        for call in calls:
            for held in NO_SEQUENCES:
                self.fails(BadHeld(-1), call, None, held)
            for bad in NO_COUPLES:
                self.fails(BadHeld(1), call, None, [(2, 1), bad, bad])
                self.fails(BadHeld(0), call, [(0, 0)], (bad,))
            self.fails(BadHeld(2), call, None, [(0, 1), (1, 2), (0, 3)])
            self.fails(BadHeld(2), call, None, [(0, 1), (1, 2), (2, 1)])
            self.fails(BadHeld(1), call, None, [(0, 1), (0, 1), None])

    def faulty(self, bare, placed, held, index, word):
        """The placed row is at fault at this move, for every function that tells it."""
        self.fails(BadPlaced(index, word), lambda: next(holdings_of(bare, placed, held)))
        self.fails(BadPlaced(index, word), last_holding, bare, placed, held)
        self.same(placed_fault(bare, placed, held), word)
        if held == ():
            self.fails(BadPlaced(index, word), end_cell, bare, placed)

    def test_what_is_wrong_with_a_placed_row(self):
        bare = Bare([[], [0], [0, 1]], 2)
        for placed in NO_SEQUENCES:
            self.faulty(bare, placed, (), -1, "form")
        self.faulty(bare, ((0, 0),) * 20001, (), -1, "form")
        self.same(placed_fault(bare, ((0, 0),) * 20000), None)
        for bad in NO_COUPLES:
            self.faulty(bare, [(0, 0), bad, bad], (), 1, "form")
        self.same(placed_fault(bare, [(0, 0), (1, 199)]), None)
        self.faulty(bare, [(1, 0)], (), 0, "befores")
        self.faulty(bare, [(0, 0), (2, 1)], (), 1, "befores")
        self.faulty(bare, [(0, 0), (1, 1), (0, 0), (1, 1)], (), 3, "befores")
        self.faulty(bare, [(0, 0), (0, 1)], (), 1, "cell")
        self.faulty(bare, [(0, 0), (1, 0)], (), 1, "cell")
        self.faulty(bare, [(2, 5)], ((1, 5), (0, 1)), 0, "cell")
        self.faulty(bare, [(0, 2)], ((1, 5), (0, 1)), 0, "cell")

    def test_of_two_faults_the_first_is_told(self):
        bare = Bare([[], [0], [0, 1]], 2)
        self.faulty(bare, [(1, 200)], (), 0, "form")
        # a before is missing and the cell is taken
        self.faulty(bare, [(2, 0)], ((0, 0),), 0, "befores")
        self.faulty(bare, [(0, 0), (1, 0), None], (), 1, "cell")
        self.fails(BadHeld(0), placed_fault, bare, None, [None])


class EndCell(Checks):

    def test_where_the_end_is_held(self):
        for seed, bare in enumerate(webs()):
            placed, along = placed_by(bare, Rule(seed), 40, (3, 0, 199, 17, 5, 6, 8, 9))
            ends = dict(along[-1])
            if bare.end in ends:
                self.same(end_cell(bare, placed), ends[bare.end])
            else:
                self.fails(NotHeld(), end_cell, bare, placed)
            kept = placed_row(bare, kept_row(bare, Rule(seed)))
            self.same(end_cell(bare, kept), dict(kept)[bare.end])

    def test_it_is_not_held(self):
        self.fails(NotHeld(), end_cell, chain(2), ())
        self.fails(NotHeld(), end_cell, chain(1), [(0, 5), (0, 5)])
        self.same(end_cell(chain(1), [(0, 5), (0, 5), (0, 6)]), 6)
        self.fails(BadPlaced(1, "form"), end_cell, chain(1), [(0, 5), (0, 200)])

    def test_numbers_of_other_kinds_are_no_cells(self):
        for bad in NO_NUMBERS:
            self.fails(BadPlaced(0, "form"), end_cell, chain(2), [(0, bad)])
