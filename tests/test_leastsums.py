"""[7.11]: least sums, and what lots hold of a sum."""

from fractions import Fraction
from itertools import combinations

from helpers import NO_NUMBERS, Checks, Rule, chain, every_standing, large_bares, some_bares
from test_search import walk
from test_sums import ONE, RIGHT, TWO, Number, out_by
from undocells.bares import Bare
from undocells.closed import closed_lot, lot_fault
from undocells.errors import BadPrime, BadRoom, HasRow, NoSum, TooMany
from undocells.leastsums import factor_within, least_sum
from undocells.search import price_of, reached_standings, shown_price_of
from undocells.sums import Sum, room_of_sum, sum_fault, sum_of_row

PRIMES = (0, 2, 3, 97)


def fewest(bare, room, shown):
    """The fewest moves of a kept or shown row within the room, or None."""
    found = [len(way) for standing, way in walk(bare, room).items()
             if (bare.end in standing if shown else standing == (bare.end,))]
    return min(found, default=None)


def all_lines(bare, room):
    """(product, place) of all lines within a room."""
    return [(product, place) for product in every_standing(len(bare)) for place in range(len(bare))
            if place not in product and set(bare.befores[place]) <= set(product) and len(product) < room]


def all_ends(bare, room):
    """The products of all end lines within a room."""
    return [product for product in every_standing(len(bare)) if bare.end in product and len(product) <= room]


def can_come_to_one(prime, lines, ends):
    """Whether any factors of these lines and end lines come to one: each row is freed of the ones ahead of it."""
    rows = [{product: 1, tuple(sorted((*product, place))): -1} for product, place in lines]
    rows += [{product: 1} for product in ends] + [{(): 1}]
    basis = []
    for listed in rows:
        row = {key: Number(prime, worth).worth for key, worth in listed.items()}
        for pivot, base in basis:
            if row.get(pivot):
                factor = row[pivot] * (pow(base[pivot], -1, prime) if prime else Fraction(1) / base[pivot])
                for key, worth in base.items():
                    row[key] = Number(prime, row.get(key, 0) - factor * worth).worth
        left = [key for key, worth in row.items() if worth]
        if left:
            basis.append((left[0], row))
    # the last row is one itself: it is made of the others exactly if nothing of it was left
    return not left


def factor_by(prime, rule):
    if prime:
        return 1 + rule.below(prime - 1)
    fraction = Fraction(1 + rule.below(9), 1 + rule.below(4)) * (1 - 2 * rule.below(2))
    return (fraction.numerator, fraction.denominator)


def is_nought(factor):
    return factor in (0, (0, 1))


class Least(Checks):

    def check(self, bare, room, prime, shown):
        made = least_sum(bare, room, prime, shown=shown)
        self.same(made.prime, prime)
        self.assertIsNone(sum_fault(bare, made))
        self.assertLessEqual(room_of_sum(made), room)
        if not shown:
            self.same(made.ends, (((bare.end,), 1 if prime else ONE),))
        self.same(len(made.lines), fewest(bare, room, shown))
        return made

    def test_a_few(self):
        self.assertTrue(least_sum(TWO, 2) == RIGHT)
        self.assertTrue(least_sum(TWO, 200, 2) == sum_of_row(TWO, (0, 1, 0), 2))
        self.assertTrue(least_sum(TWO, 2, shown=True) == sum_of_row(TWO, (0, 1)))
        self.assertTrue(least_sum(chain(1), 1, 97, shown=False) == sum_of_row(chain(1), (0,), 97))

    def test_as_many_lines_as_the_fewest_moves_or_a_closed_lot(self):
        for seed, bare in enumerate(list(some_bares(5, 3)) + list(large_bares(6))):
            for room in range(1, len(bare) + 2):
                for shown in (False, True):
                    least = shown_price_of(bare) if shown else price_of(bare)
                    if room >= least:
                        self.check(bare, room, PRIMES[seed % 4], shown)
                        self.fails(HasRow(room), closed_lot, bare, room, shown=shown)
                    else:
                        for prime in PRIMES:
                            self.fails(NoSum(room), least_sum, bare, room, prime, shown=shown)
                        self.assertIsNone(lot_fault(bare, room, closed_lot(bare, room, shown=shown), shown=shown))

    def test_all_primes(self):
        for bare in some_bares(5, 29):
            for prime in PRIMES:
                for shown in (False, True):
                    self.check(bare, len(bare), prime, shown)

    def test_no_sum_has_fewer_lines(self):
        for bare in (chain(1), chain(2), chain(3), Bare([[], [], [0, 1]], 2), Bare([[], [0], [0, 1]], 2)):
            for room in range(1, len(bare) + 1):
                for shown in (False, True):
                    ends = all_ends(bare, room) if shown else [(bare.end,)]
                    lines = all_lines(bare, room)
                    least = fewest(bare, room, shown)
                    for prime in (0, 2, 3):
                        self.same(can_come_to_one(prime, lines, ends), least is not None)
                        for chosen in combinations(lines, (least or 1) - 1):
                            self.assertFalse(can_come_to_one(prime, chosen, ends))
                        if least is not None:
                            taken = [line[:2] for line in least_sum(bare, room, prime, shown=shown).lines]
                            self.assertTrue(can_come_to_one(prime, taken, ends))

    def test_lines_within_a_room_come_to_one_exactly_from_the_price_on(self):
        for bare in list(some_bares(4, 3)) + list(some_bares(5, 97)):
            for room in range(1, len(bare) + 1):
                lines = all_lines(bare, room)
                for prime in (0, 2):
                    self.same(can_come_to_one(prime, lines, [(bare.end,)]), room >= price_of(bare))
                    self.same(can_come_to_one(prime, lines, all_ends(bare, room)), room >= shown_price_of(bare))

    def test_errors_in_their_order(self):
        for shown in (False, True):
            self.fails(TooMany(8), least_sum, chain(9), None, 4, shown=shown)
            for room in (0, 201, -1, *NO_NUMBERS):
                self.fails(BadRoom(), least_sum, chain(8), room, 4, shown=shown)
            for prime in (1, 4, 98, *NO_NUMBERS):
                self.fails(BadPrime(), least_sum, chain(8), 1, prime, shown=shown)
            self.fails(NoSum(1), least_sum, chain(8), 1, shown=shown)
            self.check(chain(8), 200, 0, shown)
        self.fails(NoSum(3), least_sum, chain(8), 3)
        self.check(chain(8), 4, 0, False)


class Within(Checks):

    def test_a_few(self):
        self.same(factor_within(RIGHT, ((),)), ONE)
        self.same(factor_within(RIGHT, ()), (0, 1))
        self.same(factor_within(RIGHT, [(0,), (1,)]), (0, 1))
        loose = Sum(0, (((), 0, (1, 2)),), (((1,), (1, 3)),))
        self.same(factor_within(loose, [(), (1,)]), (5, 6))
        self.same(factor_within(loose, [(0,), (1,)]), (-1, 6))
        self.same(factor_within(Sum(3, (((), 0, 1),), (((1,), 2),)), [(0,), (1,)]), 1)
        self.same(factor_within(Sum(3, (), ()), [()]), 0)

    def test_any_lots_by_the_words_of_the_document(self):
        for seed, bare in enumerate(some_bares(4, 3)):
            rule = Rule(seed)
            for prime in PRIMES:
                made = self.loose(bare, len(bare), prime, all_ends(bare, len(bare)), rule)
                lot = [standing for standing in every_standing(len(bare)) if rule.below(2)]
                total = Number(prime, 0)
                for product, factor in out_by(prime, made.lines, made.ends):
                    if product in lot:
                        total += Number.of(prime, factor)
                self.same(factor_within(made, lot), total.told())

    def loose(self, bare, room, prime, ends, rule):
        """Any lines within the room and some of these end lines, chosen by a rule."""
        lines = [(*line, factor_by(prime, rule)) for line in sorted(all_lines(bare, room)) if rule.below(3)]
        return Sum(prime, tuple(lines), tuple((product, factor_by(prime, rule)) for product in ends if rule.below(2)))

    def test_nought_for_every_closed_lot(self):
        lots = 0
        for seed, bare in enumerate(list(some_bares(4, 1)) + list(some_bares(5, 11))):
            rule = Rule(seed)
            for room in range(1, len(bare) + 1):
                for shown in (False, True):
                    for lot in self.closed(bare, room, shown, rule):
                        lots += 1
                        ends = all_ends(bare, room) if shown else [(bare.end,)]
                        for prime in PRIMES:
                            made = self.loose(bare, room, prime, ends, rule)
                            self.assertTrue(is_nought(factor_within(made, lot)))
                            self.assertFalse(made.lines == () and sum_fault(bare, made) is None)
        self.assertGreater(lots, 100)

    def closed(self, bare, room, shown, rule):
        """Closed lots: the reached standings, and those with all that others reach put to them."""
        reached = reached_standings(bare, room)
        lots = [list(reached)]
        others = [s for s in every_standing(len(bare)) if len(s) <= room and s not in reached]
        if others:
            lots.append(list(reached) + list(walk(bare, room, rule.one_of(others))))
        return [lot for lot in lots if lot_fault(bare, room, lot, shown=shown) is None]
