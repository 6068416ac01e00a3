"""[7.6]: primes and factors."""

from fractions import Fraction

from helpers import NO_NUMBERS, Checks
from undocells.errors import BadPrime
from undocells.factors import added, all_added, check_prime, is_factor, is_less, opposite, whole_factor

PRIMES = [n for n in range(2, 98) if all(n % k for k in range(2, n))]


class Primes(Checks):

    def test_primes(self):
        self.same(len(PRIMES), 25)
        for prime in [0, *PRIMES]:
            self.same(check_prime(prime), prime)

    def test_no_primes(self):
        for thing in (*[n for n in range(-100, 121) if n != 0 and n not in PRIMES], 10 ** 30, *NO_NUMBERS):
            self.fails(BadPrime(), check_prime, thing)
        for thing in (1, 4, 96, 98, 101, 91, -2):
            self.fails(BadPrime(), check_prime, thing)


class Factors(Checks):

    def test_factors_of_fractions(self):
        for top in range(-6, 7):
            for bottom in range(-3, 7):
                lowest = bottom >= 1 and Fraction(top, bottom).denominator == bottom
                self.assertIs(is_factor(0, (top, bottom)), lowest)
        for thing in (0, 1, (1,), (1, 1, 1), [1, 1], (True, 1), (1, True), (1.0, 1), None, (2, 4), (0, 2), (1, 0), (1, -1)):
            self.assertIs(is_factor(0, thing), False)

    def test_factors_of_primes(self):
        for prime in (2, 3, 97):
            self.same([n for n in range(-2, 100) if is_factor(prime, n)], list(range(prime)))
            for thing in ((1, 1), *NO_NUMBERS):
                self.assertIs(is_factor(prime, thing), False)

    def test_sums_of_fractions(self):
        fractions = [Fraction(top, bottom) for top in range(-4, 5) for bottom in range(1, 5)]

        def told(fraction):
            return (fraction.numerator, fraction.denominator)

        for one in fractions:
            self.same(opposite(0, told(one)), told(-one))
            for other in fractions:
                self.same(added(0, told(one), told(other)), told(one + other))
                self.same(is_less(told(one), told(other)), one < other)
        self.same(all_added(0, [told(one) for one in fractions]), told(sum(fractions)))
        self.same(all_added(0, []), (0, 1))

    def test_sums_of_primes(self):
        for prime in (2, 3, 97):
            for one in range(prime):
                self.same(opposite(prime, one), -one % prime)
                for other in range(prime):
                    self.same(added(prime, one, other), (one + other) % prime)
            self.same(all_added(prime, range(prime)), sum(range(prime)) % prime)
            self.same([whole_factor(prime, n) for n in (0, 1, -1)], [0, 1, prime - 1])
        self.same([whole_factor(0, n) for n in (0, 1, -1)], [(0, 1), (1, 1), (-1, 1)])
