"""Ranks of grids."""

from unsaidsizes.base.residues import residues
from unsaidsizes.marks.grids import exact_indexes, exact_rows, sized_indexes
from unsaidsizes.marks.tight import tight_state
from unsaidsizes.ranks.frames import Frame


def grid_rank(grid):
    """The rank of a grid, looked at like a model with its places."""
    table, bits = residues(exact_rows(grid))
    rows = {i: row for i, row in zip(exact_indexes(grid), table)}
    touched = {}
    for i in sized_indexes(grid):
        touched[i] = {j: True for j, orders in enumerate(grid[i][1]) if orders != []}
    columns = list(range(len(grid)))
    return tight_state(Frame(len(grid), rows, touched, bits), columns, columns).size()
