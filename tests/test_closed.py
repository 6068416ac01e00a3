"""[5.5] and [5.6]: closed lots."""

from helpers import NO_NUMBERS, NO_SEQUENCES, Checks, chain, every_standing, large_bares, some_bares
from undocells.bares import Bare
from undocells.closed import closed_lot, lot_fault
from undocells.errors import BadRoom, Fewer, HasRow, TooMany
from undocells.moves import row_fault
from undocells.search import fewest_moves, price_of, reached_standings, shown_price_of

THREE = chain(3)
LOT = ((), (0,), (1,), (0, 1), (1, 2))
SMALL = ((), (0,))


def is_closed(bare, room, lot, shown):
    """Whether a lot is closed, by the words of the document."""
    if () not in lot or any(len(s) > room for s in lot):
        return False
    if any(bare.end in s if shown else s == (bare.end,) for s in lot):
        return False
    for standing in lot:
        for place in range(len(bare)):
            if set(bare.befores[place]) <= set(standing):
                after = tuple(sorted(set(standing) ^ {place}))
                if len(after) <= room and after not in lot:
                    return False
    return True


class Faults(Checks):

    def test_closed_lots(self):
        self.assertIsNone(lot_fault(THREE, 2, LOT))
        self.assertIsNone(lot_fault(THREE, 2, list(LOT)[::-1]))
        self.assertIsNone(lot_fault(THREE, 1, SMALL))
        self.assertIsNone(lot_fault(THREE, 1, SMALL, shown=True))

    def test_form(self):
        wrong = [*NO_SEQUENCES, [()] * 2, [(), (0,), (0,)], [(), [0]], [(), (1, 0)], [(), (0, 0)], [(), (3,)], [(), (-1,)],
                 [(), None], [(), 0], [(), "0"], *[[(), (thing,)] for thing in NO_NUMBERS]]
        for lot in wrong:
            self.same(lot_fault(THREE, 2, lot), "form")

    def test_room(self):
        self.same(lot_fault(THREE, 1, ((), (0,), (0, 1))), "room")
        self.same(lot_fault(THREE, 2, ((), (0,), (0, 1, 2))), "room")

    def test_empty(self):
        self.same(lot_fault(THREE, 2, ()), "empty")
        self.same(lot_fault(THREE, 2, LOT[1:]), "empty")

    def test_end(self):
        self.same(lot_fault(THREE, 2, LOT + ((2,),)), "end")
        self.same(lot_fault(THREE, 2, LOT, shown=True), "end")
        self.same(lot_fault(THREE, 1, SMALL + ((2,),), shown=True), "end")
        self.assertIsNone(lot_fault(THREE, 2, LOT, shown=False))

    def test_open(self):
        self.same(lot_fault(THREE, 2, LOT[:-1]), "open")
        self.same(lot_fault(THREE, 2, LOT[:1]), "open")
        self.same(lot_fault(THREE, 2, LOT[:1] + LOT[2:]), "open")
        self.same(lot_fault(THREE, 2, SMALL), "open")

    def test_the_first_of_two_faults(self):
        self.same(lot_fault(THREE, 1, ((0, 1), (0, 1))), "form")
        self.same(lot_fault(THREE, 1, ((0, 1), (True,))), "form")
        self.same(lot_fault(THREE, 1, ((0, 1), (2,))), "room")
        self.same(lot_fault(THREE, 1, ((2,),)), "empty")
        self.same(lot_fault(THREE, 2, ((2,), (0,))), "empty")
        self.same(lot_fault(THREE, 2, ((), (2,))), "end")
        self.same(lot_fault(THREE, 2, ((), (2,)), shown=True), "end")

    def test_all_lots_of_small_webs(self):
        for bare in (chain(2), Bare([[1], []], 0)):
            standings = list(every_standing(2))
            for number in range(16):
                lot = [s for k, s in enumerate(standings) if number >> k & 1]
                for room in (1, 2):
                    for shown in (True, False):
                        right = lot_fault(bare, room, lot, shown=shown) is None
                        self.same(right, is_closed(bare, room, lot, shown))
        for bare in (THREE, Bare([[], [], [0, 1]], 2)):
            standings = list(every_standing(3))
            for number in range(256):
                lot = [s for k, s in enumerate(standings) if number >> k & 1]
                for room in (1, 2, 3):
                    right = lot_fault(bare, room, lot) is None
                    self.same(right, is_closed(bare, room, lot, False))

    def test_rooms_and_sizes_come_first(self):
        for room in (0, 201, *NO_NUMBERS):
            self.fails(BadRoom(), lot_fault, chain(9), room, None)
        self.fails(TooMany(8), lot_fault, chain(9), 1, None)
        self.same(lot_fault(chain(8), 200, None), "form")
        self.same(lot_fault(chain(8), 200, [()]), "open")


class Lots(Checks):

    def test_a_few(self):
        self.same(closed_lot(THREE, 2), LOT)
        self.same(closed_lot(THREE, 1, shown=True), SMALL)
        self.fails(HasRow(3), closed_lot, THREE, 3)
        self.fails(HasRow(2), closed_lot, THREE, 2, shown=True)
        self.fails(HasRow(1), closed_lot, chain(1), 1)

    def test_either_a_row_or_a_closed_lot(self):
        for bare in list(some_bares(5, 3)) + list(large_bares(10)):
            price, shown_price = price_of(bare), shown_price_of(bare)
            for room in range(1, len(bare) + 2):
                for shown, least in ((False, price), (True, shown_price)):
                    if room >= least:
                        self.fails(HasRow(room), closed_lot, bare, room, shown=shown)
                    else:
                        lot = closed_lot(bare, room, shown=shown)
                        self.same(lot, reached_standings(bare, room))
                        self.assertIsNone(lot_fault(bare, room, lot, shown=shown))
                        self.assertTrue(is_closed(bare, room, lot, shown))
                try:
                    self.assertIsNone(row_fault(bare, fewest_moves(bare, room), room))
                    self.assertGreaterEqual(room, price)
                except Fewer:
                    self.assertIsNone(lot_fault(bare, room, closed_lot(bare, room)))

    def test_errors(self):
        for room in (0, 201, *NO_NUMBERS):
            self.fails(BadRoom(), closed_lot, chain(9), room)
        self.fails(TooMany(8), closed_lot, chain(9), 1)
        self.fails(TooMany(8), closed_lot, chain(9), 200, shown=True)
        self.fails(HasRow(200), closed_lot, chain(8), 200)
        self.same(closed_lot(chain(8), 3), reached_standings(chain(8), 3))
