"""What is known of laws before any assignment: numbers of the exact ones, and what the sized ones touch."""

from unsaidsizes.base.elimination import cleared_whole, triangle
from unsaidsizes.base.residues import cleared, residue_rank, residues
from unsaidsizes.models.model import exact_laws, exact_table, meetings, sized_laws


def touches(model):
    """For each sized law the quantities that it touches."""
    return {which: {j: True for j in met} for which, met in zip(sized_laws(model), meetings(model))}


class Frame:
    """`rows` has the numbers of each exact law, `touched` the quantities that each sized law touches.

    The numbers are residues by the prime 2^bits - 1; if `bits` is None, they
    are whole numbers.
    """

    def __init__(self, many, rows, touched, bits):
        self.many = many
        self.rows = rows
        self.touched = touched
        self.bits = bits
        self.exact = sorted(rows)
        self.sized = sorted(touched)

    def cleared(self, row, pivot, column):
        """The row, times a number, less a multiple of `pivot`: it has 0 at the column."""
        if self.bits is None:
            return cleared_whole(row, pivot, column)
        return cleared(row, pivot, column, self.bits)

    def exact_rank(self, laws, columns):
        """The exact rank of some quantities for some laws, the exact ones among which count."""
        rows = [[self.rows[which][j] for j in columns] for which in laws if which in self.rows]
        if self.bits is None:
            _, found, _, _ = triangle(rows, len(columns))
            return found
        return residue_rank(rows, self.bits)

    def falling(self, laws, columns):
        """Those of some laws that are sized and fall on a set, in the order of the laws."""
        return [which for which in laws if which in self.touched and self.falls(which, columns)]

    def falls(self, which, columns):
        touched = self.touched[which]
        return any(j in touched for j in columns)

    def value(self, laws, columns):
        """The value of a set in the model that has these laws alone."""
        return self.exact_rank(laws, columns) + len(self.falling(laws, columns)) - len(columns)

    def laws(self):
        return sorted(self.exact + self.sized)


def frame_of(model):
    rows, bits = residues(exact_table(model))
    numbers = {which: row for which, row in zip(exact_laws(model), rows)}
    return Frame(len(model[0]), numbers, touches(model), bits)
