"""[5.7]: how many moves each room costs."""

from helpers import Checks, binary_tree, chain, large_bares, some_bares
from undocells.bares import Bare
from undocells.curve import price_curve
from undocells.errors import TooMany
from undocells.search import fewest_moves, price_of


class Curves(Checks):

    def test_a_few(self):
        self.same(price_curve(chain(1)), ((1, 1),))
        self.same(price_curve(chain(2)), ((2, 3),))
        self.same(price_curve(chain(4)), ((3, 9), (4, 7)))
        self.same(price_curve(Bare([[], [0], [0], [1, 2]], 3)), ((4, 7),))

    def test_by_going_through_all_rooms(self):
        for bare in some_bares(5, 5):
            want = tuple((room, len(fewest_moves(bare, room))) for room in range(price_of(bare), len(bare) + 1))
            self.same(price_curve(bare), want)

    def test_the_moves_are_odd_never_rise_and_are_the_fewest_at_the_number_of_places_alone(self):
        for bare in list(some_bares(5, 1)) + list(large_bares(25)) + [chain(8), chain(7), binary_tree(2)]:
            curve = price_curve(bare)
            many = len(bare)
            self.same([room for room, _ in curve], list(range(price_of(bare), many + 1)))
            moves = [move for _, move in curve]
            self.assertTrue(all(move % 2 for move in moves))
            self.same(moves, sorted(moves, reverse=True))
            self.same(curve[-1], (many, 2 * many - 1))
            self.assertTrue(all(move > 2 * many - 1 for move in moves[:-1]))

    def test_8_and_9_places(self):
        self.same([room for room, _ in price_curve(chain(8))], [4, 5, 6, 7, 8])
        self.fails(TooMany(8), price_curve, chain(9))
