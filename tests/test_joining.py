"""[4.5] to [4.8]: rows put together and taken apart."""

from helpers import NO_SEQUENCES, Checks, Rule, chain, mixed_bares, rows_within, some_bares
from undocells.bares import Bare, part_bare
from undocells.errors import NoFoot, NotKept, NotShown
from undocells.joining import bracketed, cut_row, foot_of, joined_rows, kept_of_foot, kept_of_shown, led_row
from undocells.moves import check_row, filled_behind, room_of, row_back, row_fault, standings_of
from undocells.search import fewest_moves, price_of, ready_price_of

DIAMOND = Bare([[], [0], [0], [1, 2]], 3)
KEPT = (0, 1, 2, 3, 2, 1, 0)


def shown_rows(bare, times):
    """Rows that fill the end, made by a rule: any moves, then all that is missing in order."""
    for seed in range(times):
        row = rows_within(bare, len(bare), Rule(seed), seed % 11)
        filled = filled_behind(bare, row)
        row += [place for place in bare.ordered if place not in filled]
        if seed % 3 == 0:
            row += [bare.end, bare.end]
        yield tuple(row)


def kept_rows(bare, times):
    """Kept rows: a row with the end shown, then all other places cleared, with idle moves between."""
    for seed, row in enumerate(shown_rows(bare, times)):
        idle = [bare.end] * (2 * (seed % 2))
        yield row + tuple(idle) + tuple(place for place in bare.ordered[::-1] if place != bare.end)


class Joining(Checks):

    def test_joined_rows(self):
        self.same(joined_rows([0, 1], (2,), [], (3, 3)), (0, 1, 2, 3, 3))
        self.same(joined_rows(), ())
        self.same(joined_rows([1]), (1,))
        self.same(joined_rows([9, "x"], (True,)), (9, "x", True))

    def test_cut_row(self):
        self.same(cut_row([0, 1, 2, 1, 0], (1, 2)), (1, 2, 1))
        self.same(cut_row((0, 1), []), ())
        self.same(cut_row((7, 8, 7), [7]), (7, 7))

    def test_led_row(self):
        self.same(led_row([0, 2, 0], (5, 6, 7)), (5, 7, 5))
        self.same(led_row((), []), ())
        self.same(led_row((1,), [3, 9]), (9,))

    def test_bracketed(self):
        self.same(bracketed([0, 1], [2]), (0, 1, 2, 1, 0))
        self.same(bracketed((), (3, 4)), (3, 4))
        self.same(bracketed([5, 9], ()), (5, 9, 9, 5))

    def test_the_place_that_the_inner_row_fills_is_cleared(self):
        done = 0
        for seed, bare in enumerate(list(some_bares(4, 2)) * 20):
            rule = Rule(seed)
            inner = rows_within(bare, len(bare), rule, seed % 6)
            for place in filled_behind(bare, inner):
                outer = [rule.below(len(bare)) for _ in range(1 + seed % 3)]
                whole = bracketed(inner, outer)
                if place not in outer and row_fault(bare, whole, wanted="open") is None:
                    done += 1
                    self.assertNotIn(place, filled_behind(bare, whole))
        self.assertGreater(done, 30)

    def test_a_row_cut_to_a_part_is_a_row_of_the_part(self):
        for seed, bare in enumerate(some_bares(5, 11)):
            row = rows_within(bare, len(bare), Rule(seed), 14)
            for place in range(len(bare)):
                part, places = part_bare(bare, place)
                numbers = {old: new for new, old in enumerate(places)}
                cut = led_row(cut_row(row, places), numbers)
                self.same(check_row(part, cut), cut)
                self.assertLessEqual(room_of(part, cut), room_of(bare, row))
                self.same(led_row(cut, places), cut_row(row, places))


class Shown(Checks):

    def test_kept_of_shown(self):
        self.same(kept_of_shown(DIAMOND, [0, 1, 2, 3]), KEPT)
        self.same(kept_of_shown(DIAMOND, [0, 1, 2, 3, 3, 3, 1]), KEPT)
        self.same(kept_of_shown(DIAMOND, KEPT), KEPT)
        self.same(kept_of_shown(chain(1), (0, 0, 0)), (0,))

    def test_each_shown_row_gives_a_kept_one_of_at_most_one_more_room(self):
        for bare in some_bares(4, 5):
            for row in shown_rows(bare, 12):
                kept = kept_of_shown(bare, row)
                first = row.index(bare.end)
                self.same(kept, row[:first + 1] + row[:first][::-1])
                self.assertIsNone(row_fault(bare, kept))
                self.assertLessEqual(room_of(bare, kept), room_of(bare, row) + 1)

    def test_not_shown(self):
        for row, word in (([0, 9], "place"), ([0, 3], "befores"), ([0, 1], "shown"), ((), "shown"),
                          ((0,) * 20001, "place"), ((0, 1, 2, 3, 3), "shown"), ([3, 9], "befores")):
            self.fails(NotShown(word), kept_of_shown, DIAMOND, row)
        for row in NO_SEQUENCES:
            self.fails(NotShown("place"), kept_of_shown, DIAMOND, row)

    def test_the_result_may_be_long(self):
        row = (0, 0) * 9999 + (0, 1)
        self.same(len(kept_of_shown(chain(2), row)), 39999)


class Feet(Checks):

    def test_foot_of(self):
        self.same(foot_of(DIAMOND, KEPT), ((0, 1, 2), (0, 1, 2)))
        self.same(foot_of(DIAMOND, [0, 1, 2, 3, 3, 3, 2, 1, 0]), ((0, 1, 2), (0, 1, 2)))
        self.same(foot_of(chain(1), [0]), ((), ()))
        self.same(foot_of(chain(1), (0, 0, 0)), ((), ()))
        self.same(foot_of(chain(3), (0, 1, 2, 1, 1, 1, 0)), ((0, 1, 1, 1), (0, 1)))

    def test_kept_of_foot(self):
        self.same(kept_of_foot(DIAMOND, [0, 2, 1]), (0, 2, 1, 3, 1, 2, 0))
        self.same(kept_of_foot(chain(1), ()), (0,))
        self.same(kept_of_foot(chain(3), (0, 1, 0)), (0, 1, 0, 2, 0, 1, 0))

    def test_not_kept(self):
        for row, word in (([0, 9], "place"), ([0, 3], "befores"), ([0, 1, 2, 3], "kept"), ((), "kept"), ([0, 1, 2, 3, 3], "kept"),
                          ((0,) * 20001, "place"), ([1, 9], "befores")):
            self.fails(NotKept(word), foot_of, DIAMOND, row)
        for row in NO_SEQUENCES:
            self.fails(NotKept("place"), foot_of, DIAMOND, row)

    def test_no_foot(self):
        for row, word in (([0, 9], "place"), ([0, True], "place"), ([1], "befores"), ([0, 1, 2, 3], "end"), ([0, 1], "ready"),
                          ((), "ready"), ((0,) * 20001, "place"), ([0, 1, 2, 3, 3, 2], "end"), ([0, 1, 2, 0, 2], "befores"),
                          ([0, 1, 2, 3, 9], "place"), ([0, 1, 2, 2], "ready")):
            self.fails(NoFoot(word), kept_of_foot, DIAMOND, row)
        for row in NO_SEQUENCES:
            self.fails(NoFoot("place"), kept_of_foot, DIAMOND, row)

    def test_the_foot_of_each_kept_row(self):
        for bare in some_bares(4, 5):
            for row in kept_rows(bare, 10):
                self.assertIsNone(row_fault(bare, row))
                foot, filled = foot_of(bare, row)
                room = room_of(bare, row)
                last = len(row) - 1 - row[::-1].index(bare.end)
                self.same(foot, row_back(row[last + 1:]))
                self.same(filled, filled_behind(bare, foot))
                self.assertLessEqual(room_of(bare, foot), room - 1)
                self.assertLessEqual(set(bare.befores[bare.end]), set(filled))
                self.assertNotIn(bare.end, foot)

    def test_the_kept_row_of_each_foot(self):
        for seed, bare in enumerate(some_bares(5, 7)):
            foot = [place for place in bare.ordered if place != bare.end]
            row = kept_of_foot(bare, foot)
            self.assertIsNone(row_fault(bare, row))
            self.same(room_of(bare, row), room_of(bare, foot) + 1)
            self.same(foot_of(bare, row)[0], tuple(foot))
            idle = rows_within(bare, len(bare) - 1, Rule(seed), 8)
            foot = [p for p in idle if p != bare.end]
            if row_fault(bare, foot, wanted="open") is None:
                filled = filled_behind(bare, foot)
                foot += [p for p in bare.ordered if p not in filled and p != bare.end]
                self.same(room_of(bare, kept_of_foot(bare, foot)), room_of(bare, foot) + 1)

    def test_the_price_is_one_more_than_the_room_to_fill_all_befores_of_the_end(self):
        for bare in some_bares(5, 17):
            price = price_of(bare)
            foot, _ = foot_of(bare, fewest_moves(bare, price))
            self.assertEqual(price, 1 + ready_price_of(bare))
            self.assertLessEqual(room_of(bare, foot), price - 1)

    def test_the_price_of_a_part_is_never_more(self):
        for bare in mixed_bares(4):
            for place in range(len(bare)):
                self.assertLessEqual(price_of(part_bare(bare, place)[0]), price_of(bare))

    def test_long_feet(self):
        foot = (0, 0) * 9999 + (0,)
        row = kept_of_foot(chain(2), foot)
        self.same(len(row), 39999)
        self.fails(NotKept("place"), foot_of, chain(2), row)

    def test_standings_of_a_foot_come_back(self):
        for bare in some_bares(4, 9):
            row = kept_of_foot(bare, [place for place in bare.ordered if place != bare.end])
            standings = list(standings_of(bare, row))
            half = len(row) // 2
            self.same(standings[half + 1:],
                      [tuple(sorted(s + (bare.end,))) for s in standings[:half + 1][::-1]])
