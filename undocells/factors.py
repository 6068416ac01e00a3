"""Factors: fractions in lowest terms, or the numbers below a prime."""

from math import gcd

from undocells.basics import is_whole, is_within
from undocells.errors import BadPrime

# 0 stands for fractions
PRIMES = (0, 2, 3, 5, 7, 11, 13, 17, 19, 23, 29, 31, 37, 41, 43, 47, 53, 59, 61, 67, 71, 73, 79, 83, 89, 97)


def is_prime(thing):
    """Whether it is 0 or a prime number from 2 to 97."""
    return is_whole(thing) and thing in PRIMES


def check_prime(prime):
    """The prime itself, if it is one."""
    if not is_prime(prime):
        raise BadPrime()
    return prime


def is_factor(prime, thing):
    """Whether it is a factor for this prime."""
    if prime != 0:
        return is_within(thing, 0, prime - 1)
    if not isinstance(thing, tuple) or len(thing) != 2 or not all([is_whole(part) for part in thing]):
        return False
    return thing[1] >= 1 and gcd(thing[0], thing[1]) == 1


def whole_factor(prime, number):
    """A whole number as a factor."""
    return (number, 1) if prime == 0 else number % prime


def lowest(top, bottom):
    """A fraction in lowest terms; its bottom is 1 or more."""
    shared = gcd(top, bottom)
    return (top // shared, bottom // shared)


def added(prime, one, other):
    """The sum of two factors."""
    if prime == 0:
        return lowest(one[0] * other[1] + other[0] * one[1], one[1] * other[1])
    return (one + other) % prime


def opposite(prime, factor):
    """The factor that comes to nought with this one."""
    return (-factor[0], factor[1]) if prime == 0 else -factor % prime


def is_less(one, other):
    """Whether one fraction is less than another."""
    return one[0] * other[1] < other[0] * one[1]


def all_added(prime, factors):
    """The sum of all these factors."""
    total = whole_factor(prime, 0)
    for factor in factors:
        total = added(prime, total, factor)
    return total
