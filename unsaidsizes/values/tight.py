"""The tight model of a model, and which sizes stand in the determinants of its blocks."""

from unsaidsizes.base.elimination import cleared_whole
from unsaidsizes.base.tables import determinant
from unsaidsizes.marks.tight import tight_frame
from unsaidsizes.models.laws import places_of, sizes_in
from unsaidsizes.values.blocks import said_row


def _size_places(model):
    """For each place of each sized law, under (law, order, quantity), the index of its size, None in front."""
    found, many = {}, 0
    for i, told in enumerate(model[1]):
        own = len(sizes_in(told))
        if own > 0:
            for (k, j), size in zip(places_of(told), [None] + list(range(many, many + own))):
                found[(i, k, j)] = size
            many += own
    return found


class Tight:
    """The tight model of a grid with marks.

    `frame` has its laws, and `sizes` for each sized one the size at each of its columns, None in front.
    """

    def __init__(self, model, grid, p, q):
        self.frame = tight_frame(grid, p, q)
        places = _size_places(model)
        self.sizes = {}
        for i in self.frame.sized:
            self.sizes[i] = {j: places[(i, q[j] - p[i], j)] for j in self.frame.touched[i]}

    def value_at(self, said):
        """The determinant of all rows in their order, for sizes that are whole numbers."""
        rows = []
        for i in self.frame.laws():
            if i in self.sizes:
                rows.append(said_row(self.sizes[i], said, self.frame.many))
            else:
                rows.append(self.frame.rows[i])
        return determinant(rows)

    def own_rows(self, blocks):
        """For each block the sized rows that are its own."""
        place = {j: k for k, block in enumerate(blocks) for j in block}
        found = [[] for _ in blocks]
        # All rows stand in an assignment; so the block of a row needs all others that it falls on.
        for i in self.frame.sized:
            found[max([place[j] for j in self.sizes[i]])].append(i)
        return found

    def groups(self, blocks):
        """The groups in their order, each with the number of its block."""
        found = []
        for k, rows in enumerate(self.own_rows(blocks)):
            own = [self.sizes[i][j] for i in rows for j in blocks[k] if j in self.sizes[i]]
            sizes = sorted([size for size in own if size is not None])
            if sizes != []:
                found.append((sizes, k))
        return sorted(found)

    def exact_parts(self, blocks):
        """For each block its own exact rows, at its columns: sums of the tight numbers of all of them."""
        rows = [self.frame.rows[i] for i in self.frame.exact]
        found = []
        # They have nothing in the blocks that need it, which stand behind it.
        for block in reversed(blocks):
            own = []
            for column in block:
                pivot = _with_number(rows, column)
                if pivot is not None:
                    own.append([pivot[j] for j in block])
                    rows = [cleared_whole(row, pivot, column) for row in rows if row != pivot]
            found.append(own)
        found.reverse()
        return found


def _with_number(rows, column):
    """The first of some rows that is not 0 at a column, or None."""
    for row in rows:
        if row[column] != 0:
            return row
    return None
