"""The number of free beginnings, and its papers."""

from unsaidsizes.base.inverses import are_changes
from unsaidsizes.begin.changing import relaxed
from unsaidsizes.marks.grids import changed, exact_indexes
from unsaidsizes.marks.marks import is_marks
from unsaidsizes.marks.tight import shows_regular, tight_frame


def beginnings(grid):
    """The number of free beginnings, None if the grid is not full."""
    found = relaxed(grid)
    if found is None:
        return None
    _, p, q, _ = found
    return sum(q) - sum(p)


def beginnings_paper(grid):
    """A paper that the check accepts, None if the grid is not full."""
    found = relaxed(grid)
    return None if found is None else paper_of(found)


def paper_of(found):
    """The paper for what `relaxed` has found."""
    changing, p, q, state = found
    _, columns, pairs = state.assignment()
    return (changing.changes(), changing.inverse(), list(p), list(q), columns, [j for _, j in pairs])


def check_beginnings(grid, number, paper):
    changes, inverse, p, q, columns, places = paper
    many = len(exact_indexes(grid))
    if number != sum(q) - sum(p) or not are_changes(changes, inverse, many):
        return False
    now = changed(grid, changes)
    if not is_marks(now, p, q):
        return False
    return shows_regular(tight_frame(now, p, q), list(range(len(grid))), columns, places)
