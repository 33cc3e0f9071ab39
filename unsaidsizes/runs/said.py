"""Models and grids with said sizes."""

from unsaidsizes.base.polys import trimmed
from unsaidsizes.begin.relax import beginnings
from unsaidsizes.errors import NoSize, NotFull, OutOfRange, TooMany
from unsaidsizes.marks.grids import copied, grid_of
from unsaidsizes.models.laws import MOST_NUMBER, copied_law, is_exact, sizes_in, source_of
from unsaidsizes.models.model import MOST_LAWS, MOST_QUANTITIES, sizes_of
from unsaidsizes.ranks.assign import rank
from unsaidsizes.runs.ratios import common_below, whole
from unsaidsizes.stages.sizes import need_sizes, sizes_by_law


def _said_terms(told, known):
    """The terms of the exact law that has the said sizes of a law: the place in front first."""
    said = [(size, k, j) for size, k, j in told[3] if size in known]
    sizes = [known[size] for size, _, _ in said]
    below = common_below(sizes)
    terms = [(below, told[1], told[2])]
    for number, (_, k, j) in zip(whole(sizes, below), said):
        if number != 0:
            terms.append((-number, k, j))
    return terms


def _is_left(told, known):
    """True if sizes or a source are left of a law when its known sizes are said."""
    return source_of(told) != "" or not all(size in known for size in sizes_in(told))


def _further_law(told, known, u):
    """The law of a further quantity, which is what is left of a law."""
    left = [(size, k, j) for size, k, j in told[3] if size not in known]
    if left == []:
        return ("exact", [(1, 0, u)], source_of(told))
    return ("sized", 0, u, left, source_of(told))


class Saying:
    """A model while its laws are gone through."""

    def __init__(self, model, known):
        quantities, laws = model
        self.quantities = list(quantities)
        self.laws = []
        self.further = []
        self.taken = {name: True for name in self.quantities + sizes_of(model)}
        for i, told in enumerate(laws):
            self.say(i, told, known)

    def say(self, i, told, known):
        if is_exact(told) or not any(size in known for size in sizes_in(told)):
            self.laws.append(copied_law(told))
            return
        terms = _said_terms(told, known)
        if _is_left(told, known):
            u = len(self.quantities)
            self.quantities.append(self.new_name(i))
            self.further.append(_further_law(told, known, u))
            # The factor of the law stands first.
            terms.append((-terms[0][0], 0, u))
        if not all(-MOST_NUMBER <= number <= MOST_NUMBER for number, _, _ in terms):
            raise OutOfRange(i)
        self.laws.append(("exact", terms, ""))

    def new_name(self, i):
        name = f"said{i}"
        while name in self.taken:
            name = name + "x"
        self.taken[name] = True
        return name


def say(model, known):
    """The model without the sizes for which fractions are known."""
    sizes = {size: True for size in sizes_of(model)}
    for k, name in enumerate(sorted(known)):
        if name not in sizes:
            raise NoSize(k)
    found = Saying(model, known)
    laws = found.laws + found.further
    if len(found.quantities) > MOST_QUANTITIES:
        raise TooMany(len(found.quantities))
    if len(laws) > MOST_LAWS:
        raise TooMany(len(laws))
    return (list(found.quantities), laws)


def _said_row(told, own, many):
    """The row of a law, all on one side, and its factor."""
    below = common_below(own)
    row = [[0] * 4 for _ in range(many)]
    row[told[2]][told[1]] = below
    for number, (_, k, j) in zip(whole(own, below), told[3]):
        row[j][k] = -number
    return [trimmed(one) for one in row], below


def _are_in_range(row):
    return all(-MOST_NUMBER <= number <= MOST_NUMBER for one in row for number in one)


def _said_rows(model, grid, sizes):
    need_sizes(model, sizes)
    rows, factors = [], []
    for i, own in enumerate(sizes_by_law(model, sizes)):
        if is_exact(model[1][i]):
            rows.append(copied(grid[i]))
            factors.append(1)
        else:
            row, factor = _said_row(model[1][i], own, len(grid))
            if not _are_in_range(row):
                raise OutOfRange(i)
            rows.append(("exact", row))
            factors.append(factor)
    return rows, factors


def said_grid(model, sizes):
    """The grid with said sizes, of exact rows alone, and the factors of its rows."""
    return _said_rows(model, grid_of(model), sizes)


def is_ordinary(model, sizes):
    """True if the said grid has as many free beginnings as the grid of the model."""
    grid = grid_of(model)
    number = beginnings(grid)
    if number is None:
        raise NotFull(rank(model))
    rows, _ = _said_rows(model, grid, sizes)
    return beginnings(rows) == number
