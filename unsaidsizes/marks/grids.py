"""Grids: the rows of square models, polynomials in exact ones and lists of orders in sized ones."""

from unsaidsizes.base.tables import product
from unsaidsizes.errors import NoLaw, NoQuantity, NotSquare, TooLarge, WrongSize
from unsaidsizes.models.laws import is_exact, places_of
from unsaidsizes.models.model import exact_table

MOST_ROWS = 16


def orders_of(told, many):
    """For each quantity the ascending list of the orders of the places of a law with it."""
    row = [[] for _ in range(many)]
    for k, j in sorted(places_of(told)):
        row[j].append(k)
    return row


def grid_of(model):
    quantities, laws = model
    many = len(laws)
    if many != len(quantities):
        raise NotSquare(many)
    if many > MOST_ROWS:
        raise TooLarge(many)
    sized = [("exact", []) if is_exact(told) else ("sized", orders_of(told, many)) for told in laws]
    return with_exact(sized, exact_table(model))


def exact_indexes(grid):
    """The indexes of the exact rows."""
    return [i for i, told in enumerate(grid) if is_exact(told)]


def sized_indexes(grid):
    return [i for i, told in enumerate(grid) if not is_exact(told)]


def copied(told):
    kind, row = told
    return (kind, [list(one) for one in row])


def with_exact(grid, table):
    """The grid with the rows of a table in the place of its exact rows."""
    found = [copied(told) for told in grid]
    for i, row in zip(exact_indexes(grid), table):
        found[i] = copied(("exact", row))
    return found


def power_of(told, j):
    """The power of the place at a column of a row, None if there is none."""
    kind, row = told
    if row[j] == []:
        return None
    return len(row[j]) - 1 if kind == "exact" else row[j][-1]


def powers_of(grid):
    return [[power_of(told, j) for j in range(len(grid))] for told in grid]


def without(grid, i, j):
    """The grid without a row and a column."""
    many = len(grid)
    if not 0 <= i < many:
        raise NoLaw(i)
    if not 0 <= j < many:
        raise NoQuantity(j)
    found = []
    for kind, row in grid[:i] + grid[i + 1:]:
        found.append(copied((kind, row[:j] + row[j + 1:])))
    return found


def exact_rows(grid):
    """The table of the exact rows."""
    return [[list(one) for one in row] for kind, row in grid if kind == "exact"]


def changed(grid, changes):
    """The grid with the product of changes and its exact rows in the place of these."""
    table = exact_rows(grid)
    many = len(table)
    if len(changes) != many or not all(len(row) == many for row in changes):
        raise WrongSize(0)
    return with_exact(grid, product(changes, table))
