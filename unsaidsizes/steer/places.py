"""Arrangements of grids: columns for the exact rows, places for the sized ones, and how they are exchanged."""

from unsaidsizes.base.residues import is_regular
from unsaidsizes.marks.grids import exact_rows, sized_indexes
from unsaidsizes.ranks.needs import first_not_new, first_not_rising
from unsaidsizes.steer.gcds import gcd, parted
from unsaidsizes.steer.minors import Minors

# The polynomial d.
POWER = (0, 1)


def is_power(part):
    return tuple(part) == POWER


class Arrangements:
    """A grid: `sized` has for each sized row the least order at each column with a place."""

    def __init__(self, grid):
        self.width = len(grid)
        self.table = exact_rows(grid)
        self.sized = [{j: orders[0] for j, orders in enumerate(grid[i][1]) if orders != []}
                      for i in sized_indexes(grid)]
        self.minors = Minors(self.table, self.width)

    def has_form(self, columns, places):
        """True if two lists are an arrangement but for the minor, which is not looked at."""
        if len(columns) != len(self.table) or len(places) != len(self.sized):
            return False
        if first_not_rising(columns, self.width) is not None:
            return False
        if first_not_new(columns + places, self.width) is not None:
            return False
        return all(j in row for row, j in zip(self.sized, places))

    def is_one(self, columns, places):
        """True if two lists are an arrangement."""
        if not self.has_form(columns, places):
            return False
        return is_regular([[row[j] for j in columns] for row in self.table])

    def order_of(self, places):
        return sum([row[j] for row, j in zip(self.sized, places)])

    def exponent(self, part, many, places):
        """The exponent of a factor that divides the minor so many times."""
        return many + self.order_of(places) if is_power(part) else many

    def sized_arcs(self, part, places):
        """An arc from each column of a sized row to its place, with what it costs for a factor to take it instead."""
        found = []
        for row, b in zip(self.sized, places):
            for a, order in row.items():
                if a != b:
                    found.append((a, b, order - row[b] if is_power(part) else 0))
        return found

    def arcs(self, part, columns, places):
        """What a factor has in common with a polynomial that is no product of its power and one prime to it, or None.

        Behind it all arcs, with the times that the factor divides more.
        """
        minor, exchanged = self.minors.minor_at(columns)
        own, shared = _purity(minor, part)
        if shared is not None:
            return shared, []
        found = self.sized_arcs(part, places)
        for (a, b), one in exchanged.items():
            many, shared = _purity(one, part)
            if shared is not None:
                return shared, []
            found.append((a, b, many - own))
        return None, found

    def exchanged(self, columns, places, cycle):
        """The arrangement after each column of a cycle of arcs has taken what the next one has."""
        roles = {j: -1 for j in columns}
        for at, j in enumerate(places):
            roles[j] = at
        old = dict(roles)
        for a, b in zip(cycle, cycle[1:] + cycle[:1]):
            roles[a] = old[b]
        held = {at: j for j, at in roles.items()}
        return sorted([j for j in roles if roles[j] == -1]), [held[at] for at in range(len(places))]


def _purity(one, part):
    """How many times a factor divides a polynomial, and what it has in common with the rest, or None."""
    many, rest = parted(one, part)
    shared = gcd(rest, part)
    return many, None if shared == [1] else shared
