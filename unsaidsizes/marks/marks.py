"""Marks of grids: bounds of powers by rows and columns, and what is tight for them."""

from unsaidsizes.errors import NotMarks
from unsaidsizes.marks.given import given_columns
from unsaidsizes.marks.grids import powers_of
from unsaidsizes.marks.tight import short_columns, tight_frame, tight_state
from unsaidsizes.ranks.needs import first_not_rising


def is_marks(grid, p, q):
    many = len(grid)
    if len(p) != many or len(q) != many or any(number < 0 for number in p):
        return False
    for i, row in enumerate(powers_of(grid)):
        if any(power is not None and q[j] - p[i] < power for j, power in enumerate(row)):
            return False
    return True


def _raised_marks(powers, p):
    """The least integers for the columns that go with some for the rows."""
    found = []
    for j in range(len(powers)):
        found.append(max([row[j] + p[i] for i, row in enumerate(powers) if row[j] is not None]))
    return found


def least_marks(grid):
    """The pair of the least marks, None if the columns cannot be given to the rows."""
    powers = powers_of(grid)
    given = given_columns(powers)
    if given is None:
        return None
    p, q, last = [0] * len(grid), _raised_marks(powers, [0] * len(grid)), None
    # The places of the columns given have to become tight. Going up from 0,
    # no integer becomes greater than in any other marks of the least sum.
    while p != last:
        last = p
        p = [q[j] - powers[i][j] for i, j in enumerate(given)]
        q = _raised_marks(powers, p)
    return (p, q)


def plain_count(grid):
    marks = least_marks(grid)
    if marks is None:
        return None
    p, q = marks
    return sum(q) - sum(p)


def _need_marks(grid, p, q):
    if not is_marks(grid, p, q):
        raise NotMarks(0)


def tight_numbers(grid, p, q):
    """For each exact row the last numbers of its polynomials at tight places, 0 elsewhere."""
    _need_marks(grid, p, q)
    frame = tight_frame(grid, p, q)
    return [list(frame.rows[i]) for i in frame.exact]


def tight_places(grid, p, q):
    """For each sized row the ascending list of its tight columns."""
    _need_marks(grid, p, q)
    frame = tight_frame(grid, p, q)
    return [sorted(frame.touched[i]) for i in frame.sized]


def is_regular(grid, p, q, rows, columns):
    """True if the tight table of some rows at as many columns is regular."""
    _need_marks(grid, p, q)
    many = len(grid)
    if len(rows) != len(columns):
        return False
    if first_not_rising(rows, many) is not None or first_not_rising(columns, many) is not None:
        return False
    return tight_state(tight_frame(grid, p, q), rows, columns).size() == len(rows)


def short_set(grid, p, q):
    """A short set, ascending, or None if the tight table is regular."""
    _need_marks(grid, p, q)
    frame = tight_frame(grid, p, q)
    columns = list(range(len(grid)))
    state = tight_state(frame, columns, columns)
    if state.size() == len(grid):
        return None
    return short_columns(state)
