"""Exact calculation with fractions, which are pairs (over, under) in lowest terms."""

from math import gcd

NO_CENTS = (0, 1)
ONE_CENT = (1, 1)


def lowest(over, under):
    """The fraction over / under in lowest terms; under is not 0."""
    shared = gcd(over, under)
    if under < 0:
        shared = -shared
    return over // shared, under // shared


def pair_sum(one, other):
    """The sum of two fractions."""
    return lowest(one[0] * other[1] + other[0] * one[1], one[1] * other[1])


def pair_total(pairs):
    """The sum of all fractions of a list."""
    total = (0, 1)
    for pair in pairs:
        total = pair_sum(total, pair)
    return total


def rounded_down(pair):
    """The greatest integer that is at most the fraction."""
    return pair[0] // pair[1]


def rounded_up(pair):
    """The least integer that is at least the fraction."""
    return -(-pair[0] // pair[1])


def pair_turned(pair):
    """The fraction with the other sign."""
    return -pair[0], pair[1]


def pair_less(one, other):
    """What remains of a fraction if another one is taken from it."""
    return pair_sum(one, pair_turned(other))


def pair_times(pair, number):
    """A fraction times an integer."""
    return lowest(pair[0] * number, pair[1])


def is_below(one, other):
    """Whether a fraction is less than another one."""
    return one[0] * other[1] < other[0] * one[1]
