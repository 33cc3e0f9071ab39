"""Fractions: pairs of integers in lowest terms, the second one above 0."""

from math import gcd, lcm

from unsaidsizes.base.elimination import solved_whole
from unsaidsizes.base.tables import determinant
from unsaidsizes.errors import NoRatio, WrongSize


def _lowest(n, d):
    shared = gcd(n, d)
    if d < 0:
        shared = -shared
    return (n // shared, d // shared)


def ratio(n, d):
    """The fraction of two integers."""
    if d == 0:
        raise NoRatio(n)
    return _lowest(n, d)


def is_ratio(pair):
    n, d = pair
    return d > 0 and gcd(n, d) == 1


def plus(one, two):
    return _lowest(one[0] * two[1] + two[0] * one[1], one[1] * two[1])


def minus(one, two):
    return _lowest(one[0] * two[1] - two[0] * one[1], one[1] * two[1])


def times(one, two):
    return _lowest(one[0] * two[0], one[1] * two[1])


def over(one, two):
    """The quotient."""
    if two[0] == 0:
        raise NoRatio(0)
    return _lowest(one[0] * two[1], one[1] * two[0])


def common_below(many):
    """The least common multiple of the denominators of some fractions."""
    found = 1
    for _, d in many:
        found = lcm(found, d)
    return found


def whole(many, below):
    """The fractions times an integer that all their denominators divide."""
    return [n * (below // d) for n, d in many]


def combined(terms):
    """The sum of fractions, each times an integer; a term is a pair of this and the fraction."""
    # Long numbers are brought to lowest terms only once.
    below = common_below([value for _, value in terms])
    numbers = whole([value for _, value in terms], below)
    return _lowest(sum([factor * number for (factor, _), number in zip(terms, numbers)]), below)


def solved(rows, right):
    """The fractions that solve a square system of linear equations, None if its determinant is 0."""
    if len(right) != len(rows) or not all(len(row) == len(rows) for row in rows):
        raise WrongSize(0)
    if determinant(rows) == 0:
        return None
    below = common_below(right)
    factor, found = solved_whole(rows, whole(right, below))
    return [_lowest(number, factor * below) for number in found]
