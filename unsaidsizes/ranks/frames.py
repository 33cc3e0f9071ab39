"""What is known of a model before any assignment: its exact laws as residues, its sized laws by what they touch."""

from unsaidsizes.base.residues import residue_rank, residues
from unsaidsizes.models.model import exact_laws, exact_table, meetings, sized_laws


def touches(model):
    """For each sized law the quantities that it touches."""
    return {which: {j: True for j in met} for which, met in zip(sized_laws(model), meetings(model))}


class Frame:
    """`rows` has the residues of each exact law, `touched` the quantities that each sized law touches."""

    def __init__(self, model):
        rows, bits = residues(exact_table(model))
        self.many = len(model[0])
        self.bits = bits
        self.exact = exact_laws(model)
        self.sized = sized_laws(model)
        self.rows = {which: row for which, row in zip(self.exact, rows)}
        self.touched = touches(model)

    def exact_rank(self, laws, columns):
        """The exact rank of some quantities for some laws, the exact ones among which count."""
        rows = [[self.rows[which][j] for j in columns] for which in laws if which in self.rows]
        return residue_rank(rows, self.bits)

    def falling(self, laws, columns):
        """Those of some laws that are sized and fall on a set, in the order of the laws."""
        return [which for which in laws if which in self.touched and self.falls(which, columns)]

    def falls(self, which, columns):
        touched = self.touched[which]
        return any(j in touched for j in columns)

    def value(self, laws, columns):
        """The value of a set in the model that has these laws alone."""
        return self.exact_rank(laws, columns) + len(self.falling(laws, columns)) - len(columns)

    def laws(self):
        return sorted(self.exact + self.sized)
