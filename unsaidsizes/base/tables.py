"""Tables of polynomials and of integers."""

from unsaidsizes.base.elimination import triangle
from unsaidsizes.base.polys import degree, plus, times, value
from unsaidsizes.errors import WrongSize


def _width(table):
    return len(table[0]) if table else 0


def _is_square(table):
    return all(len(row) == len(table) for row in table)


def value_at(table, at):
    """The number table of the values at an integer."""
    return [[value(one, at) for one in row] for row in table]


def _cell(row, two, j):
    total = []
    for k, one in enumerate(row):
        total = plus(total, times(one, two[k][j]))
    return total


def product(one, two):
    if one and _width(one) != len(two):
        raise WrongSize(0)
    return [[_cell(row, two, j) for j in range(_width(two))] for row in one]


def number_rank(numbers):
    _, found, _, _ = triangle(numbers, _width(numbers))
    return found


def determinant(numbers):
    if not _is_square(numbers):
        raise WrongSize(0)
    many = len(numbers)
    _, found, sign, last = triangle(numbers, many)
    if found < many:
        return 0
    return sign * last


def reach(table):
    """At no more than so many integers the value has a lesser rank than the table."""
    return sum([max([0] + [degree(one) for one in row]) for row in table])


def _ranks(table):
    """The ranks of the values at 0, 1, .., as far as they can still become greater."""
    most = min(len(table), _width(table))
    ranks = []
    for at in range(reach(table) + 1):
        ranks.append(number_rank(value_at(table, at)))
        if ranks[at] == most:
            break
    return ranks


def rank(table):
    return max(_ranks(table))


def point(table):
    ranks = _ranks(table)
    return ranks.index(max(ranks))


def multiple_of(table):
    """The integer c if the table is c times one, otherwise None."""
    if not _is_square(table):
        return None
    if table == []:
        return 1
    corner = table[0][0]
    if len(corner) != 1 or corner[0] == 0:
        return None
    for i, row in enumerate(table):
        for j, one in enumerate(row):
            if one != (corner if i == j else []):
                return None
    return corner[0]
