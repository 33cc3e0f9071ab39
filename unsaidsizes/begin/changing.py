"""Changes of a grid that make a tight table regular."""

from math import gcd, lcm

from unsaidsizes.base.lowest import content
from unsaidsizes.base.polys import plus, raised, scaled
from unsaidsizes.marks.grids import exact_indexes, exact_rows, with_exact
from unsaidsizes.marks.marks import least_marks
from unsaidsizes.marks.tight import short_columns, tight_frame, tight_state
from unsaidsizes.ranks.circuits import dependent


def _unit(many):
    return [[[1] if i == j else [] for j in range(many)] for i in range(many)]


def _divided(one, number):
    return [own // number for own in one]


class Changing:
    """Rows of polynomials, each with the row of the changes behind it, and the steps that led there.

    The rows are told by their keys. A step is a tuple `(i, own, shared,
    others)`: row i was multiplied by `own`, the rows l, times `number * d^up`,
    were added for each (l, number, up) of `others`, and the sum was divided
    by `shared`.
    """

    def __init__(self, table, keys, width):
        self.width = width
        self.place = {key: k for k, key in enumerate(keys)}
        self.rows = [row + own for row, own in zip(table, _unit(len(table)))]
        self.steps = []

    def changed(self):
        """The table of the rows without the changes."""
        return [row[:self.width] for row in self.rows]

    def changes(self):
        return [[list(one) for one in row[self.width:]] for row in self.rows]

    def mix(self, i, own, others):
        """Does a step with row i; the rows that are added stay as they are."""
        row = [scaled(one, own) for one in self.rows[i]]
        for k, number, up in others:
            row = [plus(one, raised(scaled(other, number), up)) for one, other in zip(row, self.rows[k])]
        shared = 0
        for one in row[self.width:]:
            shared = gcd(shared, content(one))
        self.rows[i] = [_divided(one, shared) for one in row]
        self.steps.append((i, own, shared, others))

    def loosen(self, p, frame, columns):
        """Makes rows less tight that depend, at some columns, on rows with greater marks; p tells them by the keys.

        Returns how many these were: as many as possible.
        """
        order = [which for _, which in sorted([(-p[i], i) for i in frame.exact])]
        found = dependent(frame, order, columns)
        for which, numbers in found:
            own, others = 0, []
            for other, number in zip(order, numbers):
                if other == which:
                    own = number
                elif number != 0:
                    others.append((self.place[other], number, p[other] - p[which]))
            self.mix(self.place[which], own, others)
        return len(found)

    def inverse(self):
        """The table whose product with the changes is a multiple of one."""
        columns = [Column(one) for one in _unit(len(self.rows))]
        for i, own, shared, others in self.steps:
            # What a row got from others is taken back where it stands.
            for k, number, up in others:
                columns[k].mix(columns[i], -number, up, own)
            columns[i].scale(shared, own)
        below = 1
        for column in columns:
            below = lcm(below, column.below)
        polys = [column.times(below) for column in columns]
        return [[row[i] for row in polys] for i in range(len(polys))]


class Column:
    """A column of polynomials, divided by the integer `below`."""

    def __init__(self, polys):
        self.polys = polys
        self.below = 1

    def reduce(self):
        shared = self.below
        for one in self.polys:
            shared = gcd(shared, content(one))
        self.below = self.below // shared
        self.polys = [_divided(one, shared) for one in self.polys]

    def mix(self, other, number, up, below):
        """Adds another column times `number * d^up`, divided by `below`."""
        low = other.below * below
        own = [scaled(one, low) for one in self.polys]
        more = [raised(scaled(one, number * self.below), up) for one in other.polys]
        self.polys = [plus(one, two) for one, two in zip(own, more)]
        self.below = self.below * low
        self.reduce()

    def scale(self, number, below):
        self.polys = [scaled(one, number) for one in self.polys]
        self.below = self.below * below
        self.reduce()

    def times(self, number):
        factor = number // self.below
        return [scaled(one, factor) for one in self.polys]


def relaxed(grid):
    """The `Changing` after which the tight table is regular, the least marks then, and the state of the table.

    None if the grid is not full.
    """
    columns = list(range(len(grid)))
    changing = Changing(exact_rows(grid), exact_indexes(grid), len(columns))
    while True:
        now = with_exact(grid, changing.changed())
        marks = least_marks(now)
        if marks is None:
            return None
        p, q = marks
        frame = tight_frame(now, p, q)
        state = tight_state(frame, columns, columns)
        if state.size() == len(grid):
            return changing, p, q, state
        changing.loosen(p, frame, short_columns(state))
