"""The determinants of the exact rows of a grid at as many columns."""

from unsaidsizes.base.elimination import solved_sides
from unsaidsizes.base.packing import packed, unpacked
from unsaidsizes.base.residues import step_of


class Minors:
    """Finds determinants of a table of polynomials at columns, and with each other column in the place of one.

    Polynomials are reckoned with as their values at a great power of 2.
    """

    def __init__(self, table, width):
        self.many = len(table)
        self.width = width
        self.digit = step_of(table, self.many) + 1
        self.numbers = [[packed(one, self.digit) for one in row] for row in table]
        self.known = {}

    def minor_at(self, columns):
        """The determinant at as many columns as rows, and a dict with those that have column a in the place of b.

        These stand under the keys (a, b), all of them but for one sign that
        they have in common; nought ones are left out. None if the first one is nought.
        """
        key = tuple(columns)
        if key not in self.known:
            self.known[key] = self.solved_at(columns)
        return self.known[key]

    def solved_at(self, columns):
        others = [a for a in range(self.width) if a not in columns]
        own = [[row[j] for j in columns] for row in self.numbers]
        solved = solved_sides(own, [[row[j] for j in others] for row in self.numbers])
        if solved is None:
            return None
        minor, table = solved
        exchanged = {}
        for b, row in zip(columns, table):
            for a, number in zip(others, row):
                if number != 0:
                    exchanged[(a, b)] = unpacked(number, self.digit)
        return unpacked(minor, self.digit), exchanged
