"""Changes of exact rows after which as few of them as can be have anything at some columns."""

from unsaidsizes.base.polys import degree
from unsaidsizes.begin.changing import Changing
from unsaidsizes.marks.grids import orders_of
from unsaidsizes.ranks.frames import Frame


def _degree_at(row, columns):
    return max([-1] + [degree(row[j]) for j in columns])


def _leading(row, columns, most):
    """The numbers of a row at d^most, 0 at other columns."""
    found = [0] * len(row)
    for j in columns:
        if degree(row[j]) == most:
            found[j] = row[j][most]
    return found


def parting(table, width, columns):
    """Changes after which the rows that have anything at some columns are not dependent there, and their inverse.

    The degrees of the rows there do not become greater by it.
    """
    changing = Changing(table, list(range(len(table))), width)
    while True:
        rows, p = {}, {}
        for i, row in enumerate(changing.changed()):
            most = _degree_at(row, columns)
            if most >= 0:
                rows[i] = _leading(row, columns, most)
                p[i] = -most
        # As long as last numbers of rows cancel each other, degrees can be made less.
        if changing.loosen(p, Frame(width, rows, {}, None), columns) == 0:
            return changing.changes(), changing.inverse()


def parted_rows(rows, columns):
    """The rows that have another polynomial than nought at some columns, and the others."""
    own, others = [], []
    for row in rows:
        if any(row[j] != [] for j in columns):
            own.append(row)
        else:
            others.append(row)
    return own, others


def others_of(columns, many):
    """The quantities below `many` that are not in a set."""
    return [j for j in range(many) if j not in columns]


def exact_at(rows, columns):
    """Rows of a grid: rows of polynomials at some columns."""
    return [("exact", [list(row[j]) for j in columns]) for row in rows]


def sized_at(model, laws, columns):
    """Rows of a grid: sized laws at some columns."""
    found = []
    for which in laws:
        orders = orders_of(model[1][which], len(model[0]))
        found.append(("sized", [orders[j] for j in columns]))
    return found
