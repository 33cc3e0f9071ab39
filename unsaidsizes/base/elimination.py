"""Elimination in number tables without fractions (Bareiss).

Every number that comes up is a determinant of a part of the table, so the
divisions leave nothing over, and the numbers stay as small as they can be.
"""

from math import gcd


def _first_row(rows, start, column):
    for k in range(start, len(rows)):
        if rows[k][column] != 0:
            return k
    return None


def _lowered(row, pivot, column, last):
    """The row with 0 at the column; `last` is the pivot of the step before."""
    up, down = pivot[column], row[column]
    return [(up * own - down * other) // last for own, other in zip(row, pivot)]


def cleared_whole(row, pivot, column):
    """The row, times an integer, less a multiple of `pivot`: it has 0 at the column, and no common divisor."""
    shared = gcd(pivot[column], row[column])
    up, down = pivot[column] // shared, row[column] // shared
    sums = [up * own - down * other for own, other in zip(row, pivot)]
    most = 0
    for number in sums:
        most = gcd(most, number)
        if most == 1:
            return sums
    return [number // most for number in sums] if most > 1 else sums


def triangle(numbers, width):
    """Eliminates in the first `width` columns.

    Returns the rows in echelon form, how many of them have a pivot, the sign
    of the exchanges of rows, and the last pivot (1 if there is none).
    """
    rows = [list(row) for row in numbers]
    found, sign, last = 0, 1, 1
    for column in range(width):
        at = _first_row(rows, found, column)
        if at is None:
            continue
        if at != found:
            rows[found], rows[at] = rows[at], rows[found]
            sign = -sign
        for k in range(found + 1, len(rows)):
            rows[k] = _lowered(rows[k], rows[found], column, last)
        last = rows[found][column]
        found += 1
    return rows, found, sign, last


def solved_sides(numbers, sides):
    """Solves the regular square system `numbers` times x = c times `sides`, which has as many rows.

    Returns the integer c, not 0, and the table x of integers: the determinant
    and those of Cramer's rule, perhaps all of them with the other sign. None
    if the determinant is 0.
    """
    many = len(numbers)
    rows, regular, _, last = triangle([own + side for own, side in zip(numbers, sides)], many)
    if regular < many:
        return None
    found = [[] for _ in range(many)]
    for k in reversed(range(many)):
        row = rows[k]
        rest = [last * own for own in row[many:]]
        for j in range(k + 1, many):
            if row[j] != 0:
                rest = [own - row[j] * other for own, other in zip(rest, found[j])]
        found[k] = [own // row[k] for own in rest]
    return last, found


def solved_whole(numbers, right):
    """As `solved_sides`, for one column and a determinant other than 0."""
    factor, found = solved_sides(numbers, [[number] for number in right])
    return factor, [row[0] for row in found]
