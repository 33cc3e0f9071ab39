"""Exact runs of grids with exact rows alone."""

from unsaidsizes.errors import NotAChoice, NotExact, OutOfRange, WrongSize
from unsaidsizes.marks.grids import exact_rows
from unsaidsizes.models.laws import is_exact
from unsaidsizes.runs.ratios import combined, solved
from unsaidsizes.stages.staged import staged

MOST_VALUES = 12
MOST_ORDER = 30


def _need_exact(grid):
    for i, told in enumerate(grid):
        if not is_exact(told):
            raise NotExact(i)


def _need_sources(grid, sources):
    if len(sources) != len(grid):
        raise WrongSize(len(sources))
    for i, one in enumerate(sources):
        if len(one) > MOST_VALUES:
            raise OutOfRange(i)


def _terms(row, lists, e):
    """The terms of a row, differentiated e times: pairs of a number and the derivative that stands with it.

    `lists` has the derivatives of each function at the time 0; those behind
    them are left out.
    """
    found = []
    for one, values in zip(row, lists):
        for k, number in enumerate(one[:max(0, len(values) - e)]):
            if number != 0:
                found.append((number, values[k + e]))
    return found


class Runner:
    """Finds a run stage by stage: `lists` has the derivatives of each quantity found so far."""

    def __init__(self, found, changes, sources):
        self.found = found
        self.changes = changes
        self.sources = sources
        self.rows = exact_rows(found.grid)
        self.lists = [[] for _ in found.q]

    def right(self, i, e):
        """What a row still needs at a stage: its source less what is known."""
        known = [(-number, value) for number, value in _terms(self.rows[i], self.lists, e)]
        return combined(_terms(self.changes[i], self.sources, e) + known)

    def step(self, k, chosen, free):
        """Finds the derivatives of the stage, `free` being the values of the columns that are not chosen."""
        rows = self.found.rows_at(k)
        # The free values come first: the rows need them.
        for j, number in free:
            self.lists[j].append(number)
        right = [self.right(i, self.found.p[i] + k) for i in rows]
        tight = [[self.found.frame.rows[i][own] for own in chosen] for i in rows]
        for j, number in zip(chosen, solved(tight, right)):
            self.lists[j].append(number)

    def run(self, choice, values, h):
        first, q, at = self.found.first, self.found.q, 0
        free = self.found.free(choice)
        # Behind this stage all derivatives up to h are known.
        for k in range(first, h - min(q, default=h) + 1):
            if k < 0:
                own = [(j, values[at + m]) for m, j in enumerate(free[k - first])]
                at += len(own)
                self.step(k, choice[k - first], own)
            else:
                self.step(k, list(range(len(q))), [])
        return [list(one[:h + 1]) for one in self.lists]


def run(grid, paper, choice, sources, values, h):
    """The run up to the order h with these values of the beginnings of a choice."""
    _need_exact(grid)
    found = staged(grid, paper)
    if not found.is_choice(choice):
        raise NotAChoice(0)
    _need_sources(grid, sources)
    if len(values) != len(found.beginnings(choice)):
        raise WrongSize(len(values))
    if not 0 <= h <= MOST_ORDER:
        raise OutOfRange(h)
    return Runner(found, paper[0], sources).run(choice, values, h)


def _keeps_row(row, source, lists, h):
    """True if functions known up to the order h keep a row, differentiated as often as they tell."""
    degrees = [len(one) - 1 for one in row if one != []]
    if degrees == []:
        return all(value == (0, 1) for value in source)
    for e in range(h - max(degrees) + 1):
        if combined(_terms(row, lists, e)) != (source[e] if e < len(source) else (0, 1)):
            return False
    return True


def keeps(grid, sources, lists):
    """True if the derivatives of each quantity at the time 0, up to some order, keep the rows."""
    _need_exact(grid)
    _need_sources(grid, sources)
    if len(lists) != len(grid):
        return False
    if grid == []:
        return True
    h = len(lists[0]) - 1
    if h < 0 or not all(len(one) == h + 1 for one in lists):
        return False
    return all(_keeps_row(row, source, lists, h) for row, source in zip(exact_rows(grid), sources))
