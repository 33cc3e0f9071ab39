"""How deep the source of a row comes into a column."""

from unsaidsizes.begin.relax import beginnings, beginnings_paper, check_beginnings
from unsaidsizes.errors import NoLaw, NoQuantity, NotFull, TooLarge
from unsaidsizes.marks.grids import without
from unsaidsizes.marks.ranks import grid_rank

MOST_ROWS = 8


def _need_few(grid):
    if len(grid) > MOST_ROWS:
        raise TooLarge(len(grid))


def _need_place(grid, i, j):
    _need_few(grid)
    if not 0 <= i < len(grid):
        raise NoLaw(i)
    if not 0 <= j < len(grid):
        raise NoQuantity(j)


def _whole(grid):
    """The number of free beginnings of a grid that has to be full."""
    number = beginnings(grid)
    if number is None:
        raise NotFull(grid_rank(grid))
    return number


def _depth(grid, i, j, whole):
    rest = beginnings(without(grid, i, j))
    return None if rest is None else rest - whole


def depth(grid, i, j):
    """The depth of column j on row i, None if there is none."""
    _need_place(grid, i, j)
    return _depth(grid, i, j, _whole(grid))


def depths(grid):
    """For each row the depths of the columns on it."""
    _need_few(grid)
    whole = _whole(grid)
    many = len(grid)
    return [[_depth(grid, i, j, whole) for j in range(many)] for i in range(many)]


def index(grid):
    """One more than the greatest depth, at least 0."""
    known = [deep for row in depths(grid) for deep in row if deep is not None]
    return max([-1] + known) + 1


def depth_paper(grid, i, j):
    """A pair of papers of beginnings, None if there is no depth."""
    _need_place(grid, i, j)
    _whole(grid)
    rest = beginnings_paper(without(grid, i, j))
    return None if rest is None else (rest, beginnings_paper(grid))


def _own_sum(paper):
    _, _, p, q, _, _ = paper
    return sum(q) - sum(p)


def check_depth(grid, i, j, number, paper):
    _need_place(grid, i, j)
    rest, whole = paper
    less, more = _own_sum(rest), _own_sum(whole)
    if number != less - more:
        return False
    return check_beginnings(without(grid, i, j), less, rest) and check_beginnings(grid, more, whole)
