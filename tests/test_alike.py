"""[4.9] to [4.11]: lists of moves that are alike."""

from helpers import NO_NUMBERS, NO_SEQUENCES, Checks, Rule, chain, rows_within, some_bares
from undocells.alike import alike_way, are_alike, are_free, change_row, settled_row, way_fault
from undocells.bares import Bare
from undocells.errors import BadChange, BadRow, NoPlace, TooMany
from undocells.moves import filled_behind

DIAMOND = Bare([[], [0], [0], [1, 2]], 3)
WIDE = Bare([[], [], [], [0, 1, 2]], 3)


def lists(places, most):
    """All lists of up to so many moves."""
    rows = [()]
    for row in rows:
        yield row
        if len(row) < most:
            rows.extend(row + (place,) for place in range(places))


def neighbours(bare, row, most):
    """What one exchange, strike or double makes of a row, by the words of the document."""
    for at in range(len(row) - 1):
        one, other = row[at], row[at + 1]
        if one == other:
            yield row[:at] + row[at + 2:]
        elif one not in bare.befores[other] and other not in bare.befores[one]:
            yield row[:at] + (other, one) + row[at + 2:]
    if len(row) + 2 <= most:
        for at in range(len(row) + 1):
            for place in range(len(bare)):
                yield row[:at] + (place, place) + row[at:]


def reached(bare, row, most):
    """All rows of up to most moves to which changes lead without a longer one between."""
    seen, waiting = {row}, [row]
    while waiting:
        for other in neighbours(bare, waiting.pop(), most):
            if other not in seen:
                seen.add(other)
                waiting.append(other)
    return seen


def made_list(seed, places, length):
    rule = Rule(seed)
    return [rule.below(places) for _ in range(length)]


class Free(Checks):

    def test_free_places(self):
        free = [(a, b) for a in range(4) for b in range(4) if are_free(DIAMOND, a, b)]
        self.same(free, [(0, 3), (1, 2), (2, 1), (3, 0)])
        self.assertIs(are_free(WIDE, 0, 1), True)
        self.assertIs(are_free(WIDE, 0, 0), False)
        self.assertIs(are_free(WIDE, 0, 3), False)

    def test_no_places(self):
        for thing in (4, -1, *NO_NUMBERS):
            self.fails(NoPlace(thing), are_free, DIAMOND, thing, 9)
            self.fails(NoPlace(thing), are_free, DIAMOND, 0, thing)


class Changing(Checks):

    def test_exchange(self):
        self.same(change_row(DIAMOND, [1, 2, 3], ("exchange", 0)), (2, 1, 3))
        self.same(change_row(DIAMOND, (1, 0, 3), ("exchange", 1)), (1, 3, 0))

    def test_strike(self):
        self.same(change_row(DIAMOND, [1, 2, 2, 3], ("strike", 1)), (1, 3))
        self.same(change_row(DIAMOND, [3, 3], ("strike", 0)), ())

    def test_double(self):
        self.same(change_row(DIAMOND, [1, 2], ("double", 0, 3)), (3, 3, 1, 2))
        self.same(change_row(DIAMOND, [1, 2], ("double", 1, 3)), (1, 3, 3, 2))
        self.same(change_row(DIAMOND, [1, 2], ("double", 2, 0)), (1, 2, 0, 0))
        self.same(change_row(DIAMOND, (), ("double", 0, 1)), (1, 1))
        self.same(len(change_row(DIAMOND, (1,) * 100, ("double", 100, 0))), 102)

    def test_changes_may_be_lists(self):
        self.same(change_row(DIAMOND, [1, 2, 3], ["exchange", 0]), (2, 1, 3))

    def test_form(self):
        wrong = [(), ("exchange",), ("strike",), ("double", 0), ("exchange", 0, 1), ("strike", 0, 0), ("double", 0, 1, 2),
                 ("turn", 0), ("turn", 0, 0), (None, 0), ("double", 0, 4), ("double", 0, -1), ("double", 9, 4), (["strike"], 0),
                 *[(word, thing) for word in ("exchange", "strike") for thing in NO_NUMBERS],
                 *[("double", thing, 0) for thing in NO_NUMBERS], *[("double", 0, thing) for thing in NO_NUMBERS],
                 *NO_SEQUENCES, "strike"]
        for change in wrong:
            self.fails(BadChange("form"), change_row, DIAMOND, [1, 2, 2], change)

    def test_index(self):
        for at in (-1, 2, 3, 99, 10 ** 40):
            self.fails(BadChange("index"), change_row, DIAMOND, [1, 2, 2], ("exchange", at))
            self.fails(BadChange("index"), change_row, DIAMOND, [1, 2, 2], ("strike", at))
        for at in (-1, 4, 99):
            self.fails(BadChange("index"), change_row, DIAMOND, [1, 2, 2], ("double", at, 0))
        self.fails(BadChange("index"), change_row, DIAMOND, [], ("strike", 0))
        self.fails(BadChange("index"), change_row, DIAMOND, [1], ("exchange", 0))

    def test_free_and_equal(self):
        self.fails(BadChange("free"), change_row, DIAMOND, [0, 1], ("exchange", 0))
        self.fails(BadChange("free"), change_row, DIAMOND, [1, 1], ("exchange", 0))
        self.fails(BadChange("equal"), change_row, DIAMOND, [0, 1], ("strike", 0))
        self.fails(BadChange("equal"), change_row, DIAMOND, [1, 2, 1], ("strike", 1))

    def test_all_couples_of_moves(self):
        for one in range(4):
            for other in range(4):
                if are_free(DIAMOND, one, other):
                    self.same(change_row(DIAMOND, [one, other], ("exchange", 0)), (other, one))
                else:
                    self.fails(BadChange("free"), change_row, DIAMOND, [one, other], ("exchange", 0))


class Lists(Checks):
    """What the functions of these points say of wrong lists."""

    def test_of_one_list(self):
        for call in (lambda row: change_row(DIAMOND, row, None), lambda row: settled_row(DIAMOND, row)):
            for row in NO_SEQUENCES:
                self.fails(BadRow(-1, "place"), call, row)
            for thing in (4, -1, *NO_NUMBERS):
                self.fails(BadRow(2, "place"), call, [0, 0, thing, thing])
            self.fails(TooMany(100), call, (0,) * 101)
            self.fails(BadRow(101, "place"), call, [0] * 101 + [4])
        self.same(len(change_row(DIAMOND, (0,) * 100, ("strike", 98))), 98)
        self.same(settled_row(DIAMOND, [0] * 100), ())
        self.same(settled_row(DIAMOND, [1, 0] * 50), (1, 0) * 50)

    def test_of_two_lists_each_in_turn_and_ahead_of_all_else(self):
        for call in (lambda one, other: are_alike(DIAMOND, one, other), lambda one, other: alike_way(DIAMOND, one, other),
                     lambda one, other: way_fault(DIAMOND, one, other, None)):
            self.fails(BadRow(-1, "place"), call, None, [4])
            self.fails(BadRow(0, "place"), call, [4], None)
            self.fails(BadRow(1, "place"), call, [0, True], [4])
            self.fails(TooMany(100), call, [0] * 101, [4])
            self.fails(BadRow(0, "place"), call, [0] * 100, [4])
            self.fails(BadRow(-1, "place"), call, [], "01")
            self.fails(TooMany(100), call, [0], (0,) * 101)

    def test_lists_of_100_moves(self):
        row = made_list(5, 4, 100)
        self.assertIs(are_alike(DIAMOND, row, row), True)
        way = alike_way(DIAMOND, row, settled_row(DIAMOND, row))
        self.assertIsNone(way_fault(DIAMOND, row, settled_row(DIAMOND, row), way))


class Settled(Checks):

    def test_settled_rows(self):
        self.same(settled_row(DIAMOND, [2, 1]), (1, 2))
        self.same(settled_row(DIAMOND, [3, 0]), (0, 3))
        self.same(settled_row(DIAMOND, [1, 2, 1]), (2,))
        self.same(settled_row(DIAMOND, [1, 0, 1]), (1, 0, 1))
        self.same(settled_row(DIAMOND, [0, 1, 2, 3, 2, 1, 0]), (0, 1, 2, 3, 1, 2, 0))
        self.same(settled_row(WIDE, [2, 1, 0, 1, 2]), (0,))
        self.same(settled_row(WIDE, [3, 2, 1, 0, 3]), (3, 0, 1, 2, 3))
        self.same(settled_row(WIDE, []), ())

    def test_all_short_lists_against_all_that_exchanges_and_strikes_make(self):
        for bare in (DIAMOND, WIDE, chain(3), Bare([[], [2, 0], []], 1)):
            for row in lists(len(bare), 5):
                made = {row}
                waiting = [row]
                while waiting:
                    one = waiting.pop()
                    for other in neighbours(bare, one, 0):
                        if other not in made:
                            made.add(other)
                            waiting.append(other)
                self.same(settled_row(bare, row), min(made, key=lambda one: (len(one), one)))

    def test_rows_are_alike_exactly_if_their_settled_rows_are_equal(self):
        for bare in (DIAMOND, WIDE, chain(3)):
            seen = {}
            for row in lists(len(bare), 3):
                for other in reached(bare, row, 5):
                    self.same(settled_row(bare, other), settled_row(bare, row))
                seen.setdefault(settled_row(bare, row), []).append(row)
            for settled, rows in seen.items():
                for row in rows:
                    self.assertIn(settled, reached(bare, row, 5))
                    self.assertIs(are_alike(bare, row, settled), True)
            firsts = list(seen)
            for one, other in zip(firsts, firsts[1:]):
                self.assertIs(are_alike(bare, one, other), False)
                self.assertIsNone(alike_way(bare, one, other))

    def test_a_settled_row_can_be_done_and_ends_alike(self):
        for seed, bare in enumerate(some_bares(5, 5)):
            row = rows_within(bare, len(bare), Rule(seed), 30)
            settled = settled_row(bare, row)
            self.assertLessEqual(len(settled), len(row))
            self.same(filled_behind(bare, settled), filled_behind(bare, row))
            self.same(settled_row(bare, settled), settled)

    def test_from_any_standing(self):
        for seed in range(60):
            filled = [place for place in range(4) if seed >> place & 1]
            row, standing, rule = [], set(filled), Rule(seed)
            for _ in range(12):
                can = [p for p in range(4) if set(DIAMOND.befores[p]) <= standing]
                row.append(rule.one_of(can))
                standing ^= {row[-1]}
            self.same(filled_behind(DIAMOND, settled_row(DIAMOND, row), filled), tuple(sorted(standing)))


class Ways(Checks):

    def test_ways_lead_there(self):
        for seed, bare in enumerate(some_bares(5, 9, 2)):
            row = made_list(seed, len(bare), 14)
            goal = row
            for number in made_list(seed + 1, 1000, 25):
                choices = list(neighbours(bare, tuple(goal), 24))
                goal = choices[number % len(choices)]
            self.assertIs(are_alike(bare, row, goal), True)
            way = alike_way(bare, row, goal)
            self.assertIsInstance(way, tuple)
            moves = row
            for change in way:
                moves = change_row(bare, moves, change)
            self.same(tuple(moves), tuple(goal))
            self.assertIsNone(way_fault(bare, row, goal, way))
            self.assertIsNone(way_fault(bare, list(row), goal, list(way)))

    def test_equal_and_empty_rows(self):
        self.assertIsNone(way_fault(DIAMOND, [0, 1], [0, 1], ()))
        self.assertIsNone(way_fault(DIAMOND, [], [], alike_way(DIAMOND, [], [])))
        self.assertIsNone(way_fault(DIAMOND, [], [2, 2], alike_way(DIAMOND, [], [2, 2])))

    def test_rows_that_are_not_alike(self):
        for one, other in (([0], []), ([0, 1], [1, 0]), ([1, 0, 1], [0]), ([3], [0])):
            self.assertIs(are_alike(DIAMOND, one, other), False)
            self.assertIsNone(alike_way(DIAMOND, one, other))

    def test_long_ways(self):
        row = list(range(3)) * 33
        goal = sorted(row[:50]) + sorted(row[50:])
        way = alike_way(WIDE, row, goal)
        self.assertIsNone(way_fault(WIDE, row, goal, way))

    def test_each_word_of_way_fault(self):
        row = [1, 2, 2, 0]
        for way in (*NO_SEQUENCES, "double"):
            self.same(way_fault(DIAMOND, row, row, way), "form")
        self.same(way_fault(DIAMOND, row, row, [("exchange", 0), ("turn", 1)]), "form")
        self.same(way_fault(DIAMOND, row, row, [("exchange", 3)]), "index")
        self.same(way_fault(DIAMOND, row, row, [("strike", 1), ("strike", 1)]), "index")
        self.same(way_fault(DIAMOND, row, row, [("exchange", 2)]), "free")
        self.same(way_fault(DIAMOND, row, row, [("strike", 0)]), "equal")
        self.same(way_fault(DIAMOND, row, row, [("exchange", 0)]), "end")
        self.same(way_fault(DIAMOND, row, [1, 0], ()), "end")
        self.assertIsNone(way_fault(DIAMOND, row, [1, 0], [("strike", 1)]))

    def test_the_first_change_that_cannot_be_done_is_told(self):
        row = [1, 2, 2, 0]
        self.same(way_fault(DIAMOND, row, [], [("strike", 0), "form"]), "equal")
        self.same(way_fault(DIAMOND, row, [], ["form", ("strike", 0)]), "form")
        self.same(way_fault(DIAMOND, row, [], [("exchange", 2), ("exchange", 9)]), "free")
        self.same(way_fault(DIAMOND, row, [], [("exchange", 9), ("strike", 0)]), "index")
        self.same(way_fault(DIAMOND, row, [], [("exchange", 0), ("strike", 0)]), "equal")

    def test_the_lists_between_may_be_longer_than_100(self):
        row = [0] * 100
        self.assertIsNone(way_fault(DIAMOND, row, row, [("double", 50, 3)] * 3 + [("strike", 50)] * 3))
