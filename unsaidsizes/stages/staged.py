"""What a paper of beginnings tells of the stages of its grid."""

from unsaidsizes.begin.relax import check_beginnings
from unsaidsizes.errors import NotAPaper
from unsaidsizes.marks.grids import changed
from unsaidsizes.marks.tight import tight_frame, tight_state
from unsaidsizes.ranks.needs import first_not_rising


class Staged:
    """The changed grid of an accepted paper, its marks `p` and `q`, and its tight table."""

    def __init__(self, grid, paper):
        changes, _, p, q, _, _ = paper
        self.grid = changed(grid, changes)
        self.p = list(p)
        self.q = list(q)
        self.first = -max([0] + q)
        self.frame = tight_frame(self.grid, self.p, self.q)

    def rows_at(self, k):
        return [i for i, mark in enumerate(self.p) if mark + k >= 0]

    def columns_at(self, k):
        return [j for j, mark in enumerate(self.q) if mark + k >= 0]

    def is_regular(self, rows, columns):
        return tight_state(self.frame, rows, columns).size() == len(rows)

    def is_chosen(self, k, chosen):
        """True if a list is an ascending one of columns of a stage, as many as its rows."""
        if len(chosen) != len(self.rows_at(k)) or first_not_rising(chosen, len(self.q)) is not None:
            return False
        return all(self.q[j] + k >= 0 for j in chosen)

    def is_choice(self, choice):
        if len(choice) != -self.first:
            return False
        # Stages with as many rows have the same ones.
        known = {}
        for at, chosen in enumerate(choice):
            k = self.first + at
            if not self.is_chosen(k, chosen):
                return False
            key = tuple(chosen)
            if key not in known:
                known[key] = self.is_regular(self.rows_at(k), chosen)
            if not known[key]:
                return False
        return True

    def free(self, choice):
        """For each stage below 0 the columns that are not chosen."""
        return [[j for j in self.columns_at(self.first + at) if j not in chosen] for at, chosen in enumerate(choice)]

    def beginnings(self, choice):
        """The jets of the free columns, stage by stage."""
        found = []
        for at, free in enumerate(self.free(choice)):
            found.extend([(j, self.q[j] + self.first + at) for j in free])
        return found


def staged(grid, paper):
    """The stages of a grid, if the check accepts the paper with the sum of its own marks."""
    _, _, p, q, _, _ = paper
    if not check_beginnings(grid, sum(q) - sum(p), paper):
        raise NotAPaper(0)
    return Staged(grid, paper)
