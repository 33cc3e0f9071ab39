"""Ranks of grids."""

from unsaidsizes.base.residues import quick_residues, residues
from unsaidsizes.marks.grids import exact_indexes, exact_rows, sized_indexes
from unsaidsizes.marks.tight import tight_state
from unsaidsizes.ranks.frames import Frame


def _state(grid, table, bits):
    rows = {i: row for i, row in zip(exact_indexes(grid), table)}
    touched = {}
    for i in sized_indexes(grid):
        touched[i] = {j: True for j, orders in enumerate(grid[i][1]) if orders != []}
    columns = list(range(len(grid)))
    return tight_state(Frame(len(grid), rows, touched, bits), columns, columns)


def grid_state(grid):
    """The state of an assignment of the greatest size of a grid, looked at like a model with its places."""
    rows = exact_rows(grid)
    table, bits = quick_residues(rows)
    state = _state(grid, table, bits)
    if state.size() < len(grid):
        # What is not 0 at some number and for some prime is not nought; otherwise nothing is sure.
        table, bits = residues(rows)
        state = _state(grid, table, bits)
    return state


def grid_rank(grid):
    return grid_state(grid).size()
