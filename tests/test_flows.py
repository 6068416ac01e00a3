"""[7.9] and [7.10]: the row within a sum, and parts."""

from fractions import Fraction

from helpers import NO_NUMBERS, Checks, Rule, chain, kept_row, large_bares, shown_row, some_bares, walked
from test_sums import DIAMOND, ONE, RIGHT, TWO, made_mix, rows_sum
from undocells.bares import Bare
from undocells.errors import BadPart, BadSum
from undocells.flows import Part, part_fault, put_together, row_of_sum, taken_apart
from undocells.moves import row_fault
from undocells.search import fewest_moves, price_of
from undocells.sums import Sum, mixed_sum, sum_fault, sum_of_row

BAD_SUMS = ((Sum(4, RIGHT.lines, RIGHT.ends), "prime"), (Sum(0, None, ()), "lines"), (Sum(0, (), None), "ends"),
            (Sum(0, (), ()), "one"))


def least_row(one_sum):
    """The row of the document, found by going through all rows along lines, nearest and first places first."""
    ends = [product for product, _ in one_sum.ends]
    rows, waiting = {(): ()}, [()]
    for standing in waiting:
        if standing in ends:
            # rows are met by length, and those of one length in the order of their places
            return rows[standing]
        steps = []
        for product, place, _ in one_sum.lines:
            both = tuple(sorted((*product, place)))
            if standing in (product, both):
                steps.append((place, both if standing == product else product))
        for place, other in sorted(steps):
            if other not in rows:
                rows[other] = rows[standing] + (place,)
                waiting.append(other)
    return None


def finish_of(part):
    return tuple(sorted(set(walked(None, part.moves, part.base))))


def parts_sum(parts):
    """(lines, ends) of parts by the words of the document."""
    lines, ends = {}, {}
    for part in parts:
        factor, filled = Fraction(*part.factor), set(part.base)
        for place in part.moves:
            key = (tuple(sorted(filled - {place})), place)
            lines[key] = lines.get(key, 0) + (-factor if place in filled else factor)
            filled ^= {place}
        finish = tuple(sorted(filled))
        if finish != part.base:
            ends[finish] = ends.get(finish, 0) + factor
            if part.base:
                ends[part.base] = ends.get(part.base, 0) - factor
    def told(factor):
        return (factor.numerator, factor.denominator)

    return (tuple((*key, told(lines[key])) for key in sorted(lines) if lines[key]),
            tuple((key, told(ends[key])) for key in sorted(ends) if ends[key]))


class Rows(Checks):

    def check(self, bare, one_sum):
        row = row_of_sum(bare, one_sum)
        self.same(row, least_row(one_sum))
        self.assertIsNone(row_fault(bare, row, wanted="shown"))
        if one_sum.ends == (((bare.end,), 1 if one_sum.prime else ONE),):
            self.assertIsNone(row_fault(bare, row))
        return row

    def test_a_few(self):
        self.same(row_of_sum(TWO, RIGHT), (0, 1, 0))
        self.same(row_of_sum(TWO, sum_of_row(TWO, (0, 1, 0), 2)), (0, 1, 0))
        self.same(row_of_sum(TWO, mixed_sum(TWO, 0, [(0, 1, 0), (0, 1)], [(1, 2), (1, 2)])), (0, 1))
        self.same(row_of_sum(chain(1), sum_of_row(chain(1), [0])), (0,))

    def test_the_first_of_several(self):
        rows = [(0, 2, 1, 3), (0, 1, 2, 3)]
        for factors in ([(1, 2), (1, 2)], [(3, 1), (-2, 1)]):
            self.same(row_of_sum(DIAMOND, mixed_sum(DIAMOND, 0, rows, factors)), (0, 1, 2, 3))
        two = Bare([[], [], [0], [1], [2, 3]], 4)
        made = mixed_sum(two, 0, [(1, 0, 2, 3, 4, 0), (0, 2, 1, 3, 4, 1)], [(1, 3), (2, 3)])
        self.same(self.check(two, made), least_row(made))

    def test_sums_of_rows(self):
        for seed, bare in enumerate(list(some_bares(5, 1)) + list(large_bares(20, (7, 9, 12)))):
            for prime in (0, 2, 97):
                row = kept_row(bare, Rule(seed)) if seed % 2 else shown_row(bare, Rule(seed))
                self.assertLessEqual(len(self.check(bare, sum_of_row(bare, row, prime))), len(row))

    def test_sums_of_several_rows(self):
        for seed, bare in enumerate(list(some_bares(5, 1)) + list(large_bares(20, (7, 9, 12)))):
            for prime in (0, 2, 3, 97):
                rows, factors = made_mix(bare, prime, Rule(seed))
                self.check(bare, mixed_sum(bare, prime, rows, factors))

    def test_kept_sums_of_several_rows(self):
        for seed, bare in enumerate(some_bares(5, 3)):
            rows = [kept_row(bare, Rule(seed + 100 * k)) for k in range(3)]
            made = mixed_sum(bare, 0, rows, [(2, 1), (-3, 2), (1, 2)])
            self.same(made.ends, (((bare.end,), ONE),))
            self.check(bare, made)

    def test_the_row_of_a_least_row(self):
        for bare in list(some_bares(5, 5)) + list(large_bares(5)):
            row = fewest_moves(bare, price_of(bare))
            self.same(row_of_sum(bare, sum_of_row(bare, row)), row)

    def test_errors(self):
        for made, word in BAD_SUMS:
            self.fails(BadSum(word), row_of_sum, TWO, made)
            self.fails(BadSum(word), taken_apart, TWO, made)


class Parts(Checks):

    def test_a_part(self):
        part = Part((1, 2), (0,), (1, 0))
        self.same((part.factor, part.base, part.moves, part.finish), ((1, 2), (0,), (1, 0), (1,)))
        self.same(Part(ONE, (), (0, 1, 0)).finish, (1,))
        self.same(Part(ONE, (1,), (0, 1, 0, 1)).finish, (1,))
        self.same(Part(ONE, (2,), (5, 0, 2)).finish, (0, 5))

    def test_equality(self):
        part = Part(ONE, (0,), (1, 0))
        self.assertTrue(part == Part((1, 1), (0,), (1, 0)))
        self.assertFalse(part != Part((1, 1), (0,), (1, 0)))
        for other in (Part((2, 1), (0,), (1, 0)), Part(ONE, (), (1, 0)), Part(ONE, (0,), (0, 1)), None, (ONE, (0,), (1, 0))):
            self.assertTrue(part != other)
            self.assertFalse(part == other)

    def test_right_parts(self):
        for part in (Part(ONE, (), (0, 1)), Part((1, 3), (), (0, 1, 0)), Part(ONE, (0, 1), (0,)), Part(ONE, (1,), (0,)),
                     Part(ONE, (), (0, 0)), Part(ONE, (0,), (1, 1)), Part((7, 2), (0,), (0, 0, 1, 1))):
            self.assertIsNone(part_fault(TWO, part))

    def test_factor(self):
        for factor in ((0, 1), (-1, 1), (2, 4), (1, 0), (1, -1), [1, 1], 1, 0, None, (True, 1), (1, True), (1,), (1, 1, 1)):
            self.same(part_fault(TWO, Part(factor, (), (0, 1))), "factor")
            self.same(part_fault(TWO, Part(factor, None, None)), "factor")

    def test_base(self):
        for base in (None, 0, [], "", (2,), (-1,), (1, 0), (0, 0), *[(thing,) for thing in NO_NUMBERS]):
            self.same(part_fault(TWO, Part(ONE, base, (0, 1))), "base")
            self.same(part_fault(TWO, Part(ONE, base, None)), "base")

    def test_moves(self):
        for moves in (None, 0, (), [0, 1], (2,), (-1,), (1,), (0, 1, 0, 1), (0, 0, 1), *[(thing,) for thing in NO_NUMBERS]):
            self.same(part_fault(TWO, Part(ONE, (), moves)), "moves")
        self.same(part_fault(TWO, Part(ONE, (1,), (1,))), "moves")
        # such moves come ahead of a base that holds no end
        self.same(part_fault(TWO, Part(ONE, (0,), ())), "moves")
        self.same(part_fault(TWO, Part(ONE, (0,), (0, 1))), "moves")

    def test_base_of_a_way(self):
        self.same(part_fault(TWO, Part(ONE, (0,), (1,))), "base")
        self.same(part_fault(TWO, Part(ONE, (0,), (0,))), "base")
        self.same(part_fault(DIAMOND, Part(ONE, (0, 1, 2), (3,))), "base")

    def test_finish(self):
        self.same(part_fault(TWO, Part(ONE, (), (0,))), "finish")
        self.same(part_fault(TWO, Part(ONE, (0, 1), (1,))), "finish")
        self.same(part_fault(DIAMOND, Part(ONE, (), (0, 1))), "finish")

    def test_parts_by_the_words_of_the_document(self):
        for seed, bare in enumerate(list(some_bares(4, 1)) * 3):
            rule = Rule(seed)
            base = tuple(sorted({rule.below(len(bare)) for _ in range(rule.below(4))}))
            moves = tuple(rule.below(len(bare)) for _ in range(1 + rule.below(5)))
            part = Part((1, 1 + rule.below(3)), base, moves)
            self.same(part_fault(bare, part), self.word(bare, base, moves))

    def word(self, bare, base, moves):
        filled = set(base)
        for place in moves:
            if not set(bare.befores[place]) <= filled:
                return "moves"
            filled ^= {place}
        if filled == set(base):
            return None
        if base and bare.end not in base:
            return "base"
        return None if bare.end in filled else "finish"


class Together(Checks):

    def test_a_few(self):
        self.assertTrue(put_together(TWO, [Part(ONE, (), (0, 1, 0))]) == RIGHT)
        self.assertTrue(put_together(TWO, ()) == Sum(0, (), ()))
        self.assertTrue(put_together(TWO, (Part((1, 2), (), (0, 0)),)) == Sum(0, (), ()))
        made = put_together(TWO, [Part((1, 2), (0, 1), (0,)), Part(ONE, (), (0, 1))])
        self.assertTrue(made == Sum(0, (((), 0, ONE), ((0,), 1, ONE), ((1,), 0, (-1, 2))), (((0, 1), (1, 2)), ((1,), (1, 2)))))
        # the end lines of two ways come to nought
        both = put_together(TWO, [Part(ONE, (), (0, 1)), Part(ONE, (0, 1), (0,))])
        self.assertTrue(both == RIGHT)

    def test_many_parts(self):
        for seed, bare in enumerate(list(some_bares(5, 3)) + list(large_bares(8, (7, 10)))):
            parts, ways = made_parts(bare, Rule(seed))
            made = put_together(bare, parts)
            self.same((made.prime, made.lines, made.ends), (0, *parts_sum(parts)))
            self.same(sum_fault(bare, made), None if ways == 1 else "one")

    def test_errors(self):
        right, wrong = Part(ONE, (), (0, 1)), Part(ONE, (), (0,))
        self.fails(BadPart(0, "finish"), put_together, TWO, [wrong, Part(0, (), ())])
        self.fails(BadPart(2, "factor"), put_together, TWO, (right, right, Part((0, 1), None, None), wrong))
        self.fails(BadPart(1, "base"), put_together, TWO, (right, Part(ONE, (0,), (1,))))
        self.fails(BadPart(1, "moves"), put_together, TWO, (right, Part(ONE, (), (1,))))


def made_parts(bare, rule):
    """Some right parts by a rule, and what the factors of the ways from nothing come to."""
    parts, ways = [], Fraction(0)
    for _ in range(rule.below(5)):
        row = tuple(shown_row(bare, rule, 6))
        factor = Fraction(1 + rule.below(4), 1 + rule.below(3))
        told = (factor.numerator, factor.denominator)
        kind = rule.below(3)
        if kind == 0:
            parts.append(Part(told, (), row))
            ways += factor
        elif kind == 1:
            parts.append(Part(told, (), row + row[::-1]))
        else:
            base = tuple(sorted(walked(bare, row)))
            other = tuple(shown_row(bare, rule, 6))
            part = Part(told, base, row[::-1] + other)
            if finish_of(part) != base or part.moves:
                parts.append(part)
    row = tuple(shown_row(bare, rule, 6))
    rest = 1 - ways
    if rest > 0:
        parts.append(Part((rest.numerator, rest.denominator), (), row))
        ways = Fraction(1)
    return parts, ways


class Apart(Checks):

    def check(self, bare, one_sum):
        parts = taken_apart(bare, one_sum)
        self.assertIsInstance(parts, tuple)
        for part in parts:
            self.assertIsNone(part_fault(bare, part))
        self.same(parts_sum(parts), (one_sum.lines, one_sum.ends))
        self.assertTrue(put_together(bare, parts) == one_sum)
        self.assertLessEqual(len(parts), len(one_sum.lines) + len(one_sum.ends))
        lines = {line[:2]: line[2][0] for line in one_sum.lines}
        ends = {product: factor[0] for product, factor in one_sum.ends}
        for part in parts:
            filled = set(part.base)
            for place in part.moves:
                top = lines[tuple(sorted(filled - {place})), place]
                self.assertTrue(top < 0 if place in filled else top > 0)
                filled ^= {place}
            if finish_of(part) != part.base:
                self.assertTrue(part.base == () or ends[part.base] < 0)
                self.assertGreater(ends[finish_of(part)], 0)
        return parts

    def test_a_few(self):
        parts = self.check(TWO, RIGHT)
        self.assertTrue(parts == (Part(ONE, (), (0, 1, 0)),))
        self.check(TWO, mixed_sum(TWO, 0, [(0, 1, 0), (0, 1)], [(1, 2), (1, 2)]))
        self.check(TWO, mixed_sum(TWO, 0, [(0, 1, 0), (0, 1)], [(3, 1), (-2, 1)]))

    def test_sums_of_rows(self):
        for seed, bare in enumerate(list(some_bares(5, 1)) + list(large_bares(20, (7, 9, 12)))):
            self.check(bare, sum_of_row(bare, shown_row(bare, Rule(seed))))

    def test_sums_of_several_rows(self):
        for seed, bare in enumerate(list(some_bares(5, 1)) + list(large_bares(20, (7, 9, 12)))):
            for times in range(3):
                rows, factors = made_mix(bare, 0, Rule(seed + 1000 * times))
                self.check(bare, mixed_sum(bare, 0, rows, factors))

    def test_parts_put_together_and_taken_apart_again(self):
        circles = 0
        for seed, bare in enumerate(list(some_bares(5, 1)) + list(large_bares(20, (7, 10)))):
            parts, ways = made_parts(bare, Rule(seed))
            if ways == 1:
                again = self.check(bare, put_together(bare, parts))
                circles += any(finish_of(part) == part.base for part in again)
        self.assertGreater(circles, 3)

    def test_circles_of_their_own(self):
        # a ring over places that stand side by side, which no row within the sum meets
        bare = Bare([[], [], [], [0, 1, 2]], 3)
        ring = Part((5, 3), (0,), (1, 2, 1, 2))
        self.assertIsNone(part_fault(bare, ring))
        made = put_together(bare, [ring, Part(ONE, (), (2, 1, 0, 3))])
        self.assertIsNone(sum_fault(bare, made))
        parts = self.check(bare, made)
        self.assertTrue(any(finish_of(part) == part.base for part in parts))

    def test_a_row_through_all_standings_of_some_leaves(self):
        bare = Bare([[] for _ in range(7)] + [list(range(7))], 7)
        # each number differs from the next one, in this count, at the position of its lowest binary nought
        row = [(~number & (number + 1)).bit_length() - 1 for number in range(127)]
        row += [place for place in range(7) if place not in walked(bare, row)] + [7]
        self.check(bare, sum_of_row(bare, row))

    def test_only_fractions(self):
        for prime in (2, 97):
            self.fails(BadSum("prime"), taken_apart, TWO, sum_of_row(TWO, (0, 1), prime))
        self.fails(BadSum("one"), taken_apart, TWO, Sum(2, (), ()))
