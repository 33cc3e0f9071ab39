"""Whether the product of two tables of polynomials is a multiple of one, also for very long polynomials."""

from unsaidsizes.base.packing import packed
from unsaidsizes.base.polys import is_polynomial

# 2^61 - 1
PRIME = 2305843009213693951


def _residue(one):
    """The value of a polynomial at 3, less a multiple of the prime."""
    total = 0
    for number in reversed(one):
        total = (total * 3 + number) % PRIME
    return total


def _product(one, two):
    """The product of two number tables with as many rows as columns."""
    table = []
    for row in one:
        total = [0] * len(two)
        for own, other in zip(row, two):
            if own != 0:
                total = [number + own * factor for number, factor in zip(total, other)]
        table.append(total)
    return table


def _is_diagonal(numbers):
    """True if a number table has one number at row i and column i, and 0 elsewhere."""
    corner = numbers[0][0]
    for i, row in enumerate(numbers):
        if any(number != (corner if i == j else 0) for j, number in enumerate(row)):
            return False
    return True


def _greatest(table):
    return max([0] + [abs(number) for row in table for one in row for number in one])


def _longest(table):
    return max([len(one) for row in table for one in row])


def are_inverse(one, two):
    """True if the product of two tables with as many rows as columns is a multiple of one."""
    if one == []:
        return True
    first = _product([[_residue(poly) for poly in row] for row in one],
                     [[_residue(poly) for poly in row] for row in two])
    first = [[number % PRIME for number in row] for row in first]
    # What is no multiple of one there is none; this spares most of the long products.
    if not _is_diagonal(first):
        return False
    # No number of the product is greater; so it is told by its value.
    bound = len(one) * min(_longest(one), _longest(two)) * _greatest(one) * _greatest(two)
    step = bound.bit_length() + 3
    values = _product([[packed(poly, step) for poly in row] for row in one],
                      [[packed(poly, step) for poly in row] for row in two])
    return _is_diagonal(values) and 0 < abs(values[0][0]) <= bound


def _is_table(table, many):
    if len(table) != many or not all(len(row) == many for row in table):
        return False
    return all(is_polynomial(one) for row in table for one in row)


def are_changes(changes, inverse, many):
    """True if two lists are tables with so many rows and columns whose product is a multiple of one."""
    return _is_table(changes, many) and _is_table(inverse, many) and are_inverse(changes, inverse)
