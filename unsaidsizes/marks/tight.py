"""The tight tables of grids, looked at like the entries of models."""

from unsaidsizes.base.tables import determinant
from unsaidsizes.marks.grids import power_of
from unsaidsizes.models.laws import is_exact
from unsaidsizes.ranks.frames import Frame
from unsaidsizes.ranks.growing import grown, reached
from unsaidsizes.ranks.needs import first_not_new, first_not_rising


def _tight_columns(told, mark, q):
    found = []
    for j, bound in enumerate(q):
        power = power_of(told, j)
        if power is not None and power == bound - mark:
            found.append(j)
    return found


def tight_frame(grid, p, q):
    """The tight numbers of the exact rows and the tight places of the sized ones, by the indexes of the rows."""
    rows, touched = {}, {}
    for i, told in enumerate(grid):
        columns = _tight_columns(told, p[i], q)
        if is_exact(told):
            rows[i] = [0] * len(grid)
            for j in columns:
                rows[i][j] = told[1][j][-1]
        else:
            touched[i] = {j: True for j in columns}
    return Frame(len(grid), rows, touched, None)


def tight_state(frame, rows, candidates):
    """The state of the greatest assignment of some rows and columns; what stands first is taken first."""
    exact = [i for i in rows if i in frame.rows]
    sized = [i for i in rows if i in frame.touched]
    state, _ = grown(frame, exact + sized, candidates)
    return state


def shows_regular(frame, rows, columns, places):
    """True if a tight table is regular at columns for its exact rows and places, one for each of its sized rows."""
    exact = [i for i in rows if i in frame.rows]
    sized = [i for i in rows if i in frame.touched]
    if len(columns) != len(exact) or len(places) != len(sized):
        return False
    if first_not_rising(columns, frame.many) is not None or first_not_new(columns + places, frame.many) is not None:
        return False
    if not all(j in frame.touched[i] for i, j in zip(sized, places)):
        return False
    return determinant([[frame.rows[i][j] for j in columns] for i in exact]) != 0


def short_columns(state):
    """The columns that have too few rows, for a state of all rows and columns."""
    return reached(state.left_out(), state.arcs())
