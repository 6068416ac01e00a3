"""[7.6] to [7.8]: sums, and the sums of rows."""

from fractions import Fraction

from helpers import NO_NUMBERS, NO_SEQUENCES, Checks, Rule, chain, kept_row, large_bares, shown_row, some_bares, walked
from undocells.bares import Bare
from undocells.errors import BadFactor, BadPrime, NotShown
from undocells.moves import room_of
from undocells.search import fewest_moves, price_of
from undocells.sums import Sum, mixed_sum, multiplied_out, room_of_sum, sum_fault, sum_of_row

TWO = chain(2)
DIAMOND = Bare([[], [0], [0], [1, 2]], 3)
ONE = (1, 1)
LINES = (((), 0, ONE), ((0,), 1, ONE), ((1,), 0, (-1, 1)))
RIGHT = Sum(0, LINES, (((1,), ONE),))
NO_PRIMES = (1, -1, 4, 98, *NO_NUMBERS)


class Number:
    """A factor to reckon with in the tests."""

    def __init__(self, prime, worth):
        self.prime = prime
        self.worth = worth % prime if prime else Fraction(worth)

    @classmethod
    def of(cls, prime, factor):
        return cls(prime, factor if prime else Fraction(*factor))

    def __add__(self, other):
        return Number(self.prime, self.worth + other.worth)

    def __mul__(self, other):
        return Number(self.prime, self.worth * other.worth)

    def told(self):
        return self.worth if self.prime else (self.worth.numerator, self.worth.denominator)


def out_by(prime, lines, ends):
    """Multiplied out by the words of the document: (products with their factors, nought left out)."""
    totals = {}

    def add(product, factor):
        totals[product] = totals.get(product, Number(prime, 0)) + factor

    for product, place, factor in lines:
        add(frozenset(product), Number.of(prime, factor))
        add(frozenset(product) | {place}, Number.of(prime, factor) * Number(prime, -1))
    for product, factor in ends:
        add(frozenset(product), Number.of(prime, factor))
    return tuple(sorted((tuple(sorted(product)), factor.told()) for product, factor in totals.items() if factor.worth))


def rows_sum(prime, rows, factors):
    """(lines, ends) of rows, each times its factor, by the words of the document."""
    lines, ends = {}, {}
    for row, factor in zip(rows, factors):
        filled = set()
        for place in row:
            key = (tuple(sorted(filled - {place})), place)
            sign = Number(prime, -1 if place in filled else 1)
            lines[key] = lines.get(key, Number(prime, 0)) + sign * Number.of(prime, factor)
            filled ^= {place}
        key = tuple(sorted(filled))
        ends[key] = ends.get(key, Number(prime, 0)) + Number.of(prime, factor)
    return (tuple((*key, lines[key].told()) for key in sorted(lines) if lines[key].worth),
            tuple((key, ends[key].told()) for key in sorted(ends) if ends[key].worth))


def made_mix(bare, prime, rule):
    """Some shown rows and factors that come to one."""
    rows = [shown_row(bare, rule, 6) for _ in range(1 + rule.below(4))]
    if prime:
        factors = [rule.below(prime) for _ in rows[1:]]
        return rows, factors + [(1 - sum(factors)) % prime]
    factors = [Fraction(rule.below(9) - 4, 1 + rule.below(4)) for _ in rows[1:]]
    factors.append(1 - sum(factors))
    return rows, [(factor.numerator, factor.denominator) for factor in factors]


class Sums(Checks):

    def test_it_keeps_what_it_is_given(self):
        things = [3], {"lines"}, None
        made = Sum(*things)
        self.assertTrue(made.prime is things[0] and made.lines is things[1] and made.ends is things[2])

    def test_equality(self):
        self.assertTrue(RIGHT == Sum(0, LINES, (((1,), ONE),)))
        self.assertFalse(RIGHT != Sum(0, LINES, (((1,), ONE),)))
        for other in (Sum(2, LINES, RIGHT.ends), Sum(0, LINES[1:], RIGHT.ends), Sum(0, LINES, ()), None, (0, LINES, RIGHT.ends)):
            self.assertTrue(RIGHT != other)
            self.assertFalse(RIGHT == other)

    def test_multiplied_out(self):
        self.same(multiplied_out(RIGHT), (((), ONE),))
        self.same(multiplied_out(Sum(0, (), ())), ())
        self.same(multiplied_out(Sum(0, (((), 0, (2, 3)),), ())), (((), (2, 3)), ((0,), (-2, 3))))
        self.same(multiplied_out(Sum(5, (((1,), 0, 2),), (((1,), 3), ((0, 1), 4)))), (((0, 1), 2),))
        self.same(multiplied_out(Sum(0, (((), 0, (1, 2)),), (((0,), (1, 3)),))), (((), (1, 2)), ((0,), (-1, 6))))
        self.same(multiplied_out(Sum(2, (((), 0, 1),), (((1,), 1),))), (((), 1), ((0,), 1), ((1,), 1)))

    def test_a_line_whose_product_holds_its_place_comes_to_nought(self):
        self.same(multiplied_out(Sum(0, (((0, 1), 0, ONE),), ())), ())
        self.same(multiplied_out(Sum(3, (((0,), 0, 2),), (((1,), 1),))), (((1,), 1),))
        self.same(room_of_sum(Sum(0, (((0, 1), 0, ONE),), ())), 2)

    def test_lines_that_come_to_nought_together(self):
        self.same(multiplied_out(Sum(0, (((), 0, ONE), ((), 0, (-1, 1))), ())), ())
        self.same(multiplied_out(Sum(3, (((), 0, 1), ((), 0, 2)), (((1,), 2), ((1,), 1)))), ())

    def test_room(self):
        self.same(room_of_sum(RIGHT), 2)
        self.same(room_of_sum(Sum(0, (), ())), 0)
        self.same(room_of_sum(Sum(0, (((), 0, ONE),), ())), 1)
        self.same(room_of_sum(Sum(0, (), (((0, 2, 5), ONE),))), 3)
        self.same(room_of_sum(Sum(0, (((1, 2), 0, ONE), ((), 3, ONE)), (((1, 2), ONE),))), 3)


class Faults(Checks):

    def test_right_sums(self):
        self.assertIsNone(sum_fault(TWO, RIGHT))
        self.assertIsNone(sum_fault(chain(1), Sum(2, (((), 0, 1),), (((0,), 1),))))
        half = (((), 0, ONE), ((0,), 1, ONE), ((1,), 0, (-1, 2)))
        self.assertIsNone(sum_fault(TWO, Sum(0, half, (((0, 1), (1, 2)), ((1,), (1, 2))))))

    def test_prime(self):
        for prime in NO_PRIMES:
            self.same(sum_fault(TWO, Sum(prime, LINES, RIGHT.ends)), "prime")
            self.same(sum_fault(TWO, Sum(prime, None, None)), "prime")

    def test_lines(self):
        wrong = [None, 3, list(LINES), "ab", (None,), ((),), (((), 0),), (((), 0, ONE, 1),), ([(), 0, ONE],),
                 (([], 0, ONE),), (((), [0], ONE),), (((0, 0), 1, ONE),), (((2,), 0, ONE),), (((-1,), 0, ONE),),
                 (((), 2, ONE),), (((), -1, ONE),), (((), 1, ONE),), (((0,), 0, ONE),), (((0, 1), 1, ONE),),
                 (((), 0, (0, 1)),), (((), 0, 1),), (((), 0, (2, 2)),), (((), 0, (1, 0)),), (((), 0, (-1, -1)),),
                 (((), 0, [1, 1]),), (((), 0, (0, 3)),), (LINES[1], LINES[0]), (LINES[0], LINES[0])]
        wrong += [(((), thing, ONE),) for thing in NO_NUMBERS] + [(((thing,), 1, ONE),) for thing in NO_NUMBERS]
        wrong += [(((), 0, (thing, 1)),) for thing in NO_NUMBERS] + [(((), 0, (1, thing)),) for thing in NO_NUMBERS]
        for lines in wrong:
            self.same(sum_fault(TWO, Sum(0, lines, RIGHT.ends)), "lines")
            self.same(sum_fault(TWO, Sum(0, lines, None)), "lines")

    def test_lines_over_a_prime(self):
        for factor in (0, 3, -1, ONE, *NO_NUMBERS):
            self.same(sum_fault(chain(1), Sum(3, (((), 0, factor),), (((0,), 1),))), "lines")

    def test_lines_in_order(self):
        two = Bare([[], [], [0, 1]], 2)
        lines = [((), 0, ONE), ((), 1, ONE), ((0,), 1, ONE), ((0, 1), 2, ONE), ((1,), 0, ONE)]
        for at in range(4):
            swapped = lines[:at] + [lines[at + 1], lines[at]] + lines[at + 2:]
            self.same(sum_fault(two, Sum(0, tuple(swapped), ())), "lines")
            self.same(sum_fault(two, Sum(0, tuple(lines[:at + 1] + [(*lines[at][:2], (2, 1))] + lines[at + 1:]), ())), "lines")
        self.same(sum_fault(two, Sum(0, tuple(lines), ())), "one")

    def test_ends(self):
        wrong = [None, 3, list(RIGHT.ends), (None,), ((),), (((1,),),), (((1,), ONE, 1),), ([(1,), ONE],), (([1], ONE),),
                 (((), ONE),), (((0,), ONE),), (((1, 0), ONE),), (((1, 1), ONE),), (((1, 2), ONE),), (((1,), (0, 1)),),
                 (((1,), 1),), (((1,), (2, 4)),), (((1,), (1, -1)),), (((1,), ONE), ((0, 1), ONE)), (((1,), ONE), ((1,), ONE)),
                 (((1,), ONE), ((1,), (1, 2)))]
        wrong += [(((thing,), ONE),) for thing in NO_NUMBERS] + [(((1,), thing),) for thing in NO_NUMBERS]
        for ends in wrong:
            self.same(sum_fault(TWO, Sum(0, LINES, ends)), "ends")
            self.same(sum_fault(TWO, Sum(0, (), ends)), "ends")

    def test_one(self):
        self.same(sum_fault(TWO, Sum(0, (), ())), "one")
        self.same(sum_fault(TWO, Sum(0, LINES, ())), "one")
        self.same(sum_fault(TWO, Sum(0, LINES[:2], RIGHT.ends)), "one")
        self.same(sum_fault(TWO, Sum(0, LINES, (((1,), (2, 1)),))), "one")
        doubled = tuple((product, place, (2 * top, bottom)) for product, place, (top, bottom) in LINES)
        self.same(sum_fault(TWO, Sum(0, doubled, (((1,), (2, 1)),))), "one")

    def test_the_first_of_two_faults(self):
        self.same(sum_fault(TWO, Sum(4, ((),), ((),))), "prime")
        self.same(sum_fault(TWO, Sum(0, ((),), ((),))), "lines")
        self.same(sum_fault(TWO, Sum(0, (), ((),))), "ends")

    def test_spoilt_sums_of_rows(self):
        for seed, bare in enumerate(some_bares(5, 9)):
            for prime in (0, 2, 5):
                made = sum_of_row(bare, shown_row(bare, Rule(seed)), prime)
                for at in range(len(made.lines)):
                    left = made.lines[:at] + made.lines[at + 1:]
                    self.same(sum_fault(bare, Sum(prime, left, made.ends)), "one")
                self.same(sum_fault(bare, Sum(prime, made.lines, ())), "one")


class RowSums(Checks):

    def test_a_few(self):
        self.assertTrue(sum_of_row(TWO, [0, 1, 0]) == RIGHT)
        self.assertTrue(sum_of_row(TWO, (0, 1, 0), 2) == Sum(2, (((), 0, 1), ((0,), 1, 1), ((1,), 0, 1)), (((1,), 1),)))
        self.assertTrue(sum_of_row(TWO, (0, 1), prime=97) == Sum(97, (((), 0, 1), ((0,), 1, 1)), (((0, 1), 1),)))
        self.same(sum_of_row(TWO, (0, 1, 0)).lines, LINES)
        # what is done there and back comes to nought
        self.same(sum_of_row(TWO, (0, 0, 0, 1, 1, 1, 0)).lines, LINES)

    def test_all_rows_of_a_rule(self):
        for seed, bare in enumerate(list(some_bares(5, 1)) + list(large_bares(20, (7, 9, 12)))):
            for prime in (0, 2, 3, 97):
                row = shown_row(bare, Rule(seed)) if seed % 2 else kept_row(bare, Rule(seed))
                made = sum_of_row(bare, row, prime)
                lines, ends = rows_sum(prime, [row], [1 if prime else ONE])
                self.same((made.prime, made.lines, made.ends), (prime, lines, ends))
                self.assertIsNone(sum_fault(bare, made))
                self.same(multiplied_out(made), out_by(prime, lines, ends))
                self.assertLessEqual(room_of_sum(made), room_of(bare, row))
                if walked(bare, row) == {bare.end}:
                    self.same(made.ends, (((bare.end,), 1 if prime else ONE),))

    def test_rows_with_the_fewest_moves_have_a_line_for_each(self):
        for bare in list(some_bares(5, 5)) + list(large_bares(5)):
            row = fewest_moves(bare, price_of(bare))
            self.same(len(sum_of_row(bare, row).lines), len(row))
            self.same(room_of_sum(sum_of_row(bare, row)), price_of(bare))

    def test_long_rows(self):
        row = [0] * 19998 + [0, 1]
        self.assertTrue(sum_of_row(TWO, row) == sum_of_row(TWO, [0, 1]))

    def test_errors(self):
        for prime in NO_PRIMES:
            self.fails(NotShown("shown"), sum_of_row, TWO, (), prime)
            self.fails(BadPrime(), sum_of_row, TWO, (0, 1), prime)
        for thing in NO_SEQUENCES:
            self.fails(NotShown("place"), sum_of_row, TWO, thing)
        self.fails(NotShown("place"), sum_of_row, TWO, [0] * 20001)
        self.fails(NotShown("place"), sum_of_row, TWO, [0, 2])
        self.fails(NotShown("befores"), sum_of_row, TWO, [1])
        self.fails(NotShown("shown"), sum_of_row, TWO, [0, 1, 1])


class Mixed(Checks):

    def test_a_few(self):
        made = mixed_sum(TWO, 0, [(0, 1, 0), (0, 1)], [(1, 2), (1, 2)])
        self.assertTrue(made == Sum(0, (((), 0, ONE), ((0,), 1, ONE), ((1,), 0, (-1, 2))),
                                    (((0, 1), (1, 2)), ((1,), (1, 2)))))
        self.assertTrue(mixed_sum(TWO, 0, ((0, 1, 0),), (ONE,)) == RIGHT)
        self.assertTrue(mixed_sum(TWO, 0, [(0, 1), (0, 1, 0), (0, 1)], [(-2, 1), ONE, (2, 1)]) == RIGHT)
        self.assertTrue(mixed_sum(TWO, 3, [(0, 1), (0, 1)], [2, 2]) == sum_of_row(TWO, (0, 1), 3))
        self.assertTrue(mixed_sum(TWO, 3, [(0, 1), (0, 1, 0)], [0, 1]) == sum_of_row(TWO, (0, 1, 0), 3))

    def test_all_mixes_of_a_rule(self):
        for seed, bare in enumerate(list(some_bares(5, 3)) + list(large_bares(8, (7, 10)))):
            for prime in (0, 2, 5, 97):
                rows, factors = made_mix(bare, prime, Rule(seed))
                made = mixed_sum(bare, prime, rows, factors)
                self.same((made.prime, made.lines, made.ends), (prime, *rows_sum(prime, rows, factors)))
                self.assertIsNone(sum_fault(bare, made))

    def test_errors_in_their_order(self):
        for prime in NO_PRIMES:
            self.fails(BadPrime(), mixed_sum, TWO, prime, [()], None)
        self.fails(NotShown("befores"), mixed_sum, TWO, 0, [(0, 1), [1], ()], None)
        self.fails(NotShown("shown"), mixed_sum, TWO, 0, [(0, 1), (), [1]], None)
        self.fails(NotShown("place"), mixed_sum, TWO, 0, [None, ()], None)
        rows = [(0, 1), (0, 1, 0)]
        for factors in (*NO_SEQUENCES, [], [ONE], [ONE, ONE, ONE], [0]):
            self.fails(BadFactor(-1), mixed_sum, TWO, 0, rows, factors)
        for thing in (0, 1, (2, 4), (0, 2), [1, 1], (1, 0), (1, -1), None, (True, 1)):
            self.fails(BadFactor(0), mixed_sum, TWO, 0, rows, [thing, None])
            self.fails(BadFactor(1), mixed_sum, TWO, 0, rows, ((5, 7), thing))
        for thing in (7, -1, ONE, *NO_NUMBERS):
            self.fails(BadFactor(1), mixed_sum, TWO, 7, rows, (6, thing))
        self.fails(BadFactor(-1), mixed_sum, TWO, 0, rows, [(1, 2), (1, 3)])
        self.fails(BadFactor(-1), mixed_sum, TWO, 7, rows, [4, 5])
        self.fails(BadFactor(-1), mixed_sum, TWO, 0, [], [])
        self.fails(BadFactor(-1), mixed_sum, TWO, 2, [], [])
