"""How many beginnings of a model cannot be told from the quantities that are seen."""

from unsaidsizes.base.inverses import are_changes
from unsaidsizes.base.polys import degree
from unsaidsizes.base.tables import product
from unsaidsizes.begin.relax import beginnings, beginnings_paper, check_beginnings
from unsaidsizes.blocks.ways import are_ways, ways
from unsaidsizes.errors import TooLarge
from unsaidsizes.models.model import exact_table
from unsaidsizes.ranks.assign import state_of
from unsaidsizes.ranks.frames import frame_of
from unsaidsizes.ranks.growing import grown, reached, turned
from unsaidsizes.ranks.needs import need_set
from unsaidsizes.steer.factor import check_factor, exact_factor, factor_paper
from unsaidsizes.steer.parting import exact_at, others_of, parted_rows, parting, sized_at

MOST_LAWS = 8


def _need(model, seen):
    if len(model[1]) > MOST_LAWS:
        raise TooLarge(len(model[1]))
    need_set(model, seen)


class Rest:
    """What is left of a model without the seen quantities, for an assignment of all unseen ones."""

    def __init__(self, model, state, unseen):
        self.told = model
        self.state = state
        self.unseen = unseen
        # In the assignment no seen quantity has a law; so no arc leads to one.
        self.turned_arcs = turned(state.arcs())
        self.stops = [j for j in state.exits() if j in unseen]

    def crowded_ones(self):
        return [j for j in reached(self.stops, self.turned_arcs) if j in self.unseen]

    def shown_ways(self):
        return [(a, b) for a, b in ways(self.stops, self.turned_arcs) if a in self.unseen]

    def grids(self, crowded, rows):
        """The own and the crowded grid for the changed exact rows, None if these are not parted as they have to be."""
        frame = self.state.frame
        least = [j for j in self.unseen if j not in crowded]
        own, others = parted_rows(rows, least)
        if len(own) != frame.exact_rank(frame.exact, least):
            return None
        falling = frame.falling(frame.sized, least)
        resting = [which for which in frame.sized if which not in falling]
        own_grid = exact_at(own, least) + sized_at(self.told, falling, least)
        ahead = exact_at(others, crowded)
        return own_grid, crowded_grid(ahead, sized_at(self.told, resting, crowded), len(crowded))

    def parted(self):
        """Changes, their inverse, and the own and the crowded grid for them."""
        table, crowded = exact_table(self.told), self.crowded_ones()
        changes, inverse = parting(table, len(self.told[0]), [j for j in self.unseen if j not in crowded])
        return changes, inverse, self.grids(crowded, product(changes, table))


def crowded_grid(exact, sized, many):
    """The grid of exact and sized rows at the crowded quantities, with further columns that make it square."""
    e, behind = len(exact), len(exact) + len(sized) - many
    found = []
    for i, (_, row) in enumerate(exact):
        found.append(("exact", row + [[-1] if k == i else [] for k in range(e)] + [[] for _ in range(behind)]))
    for i in range(e):
        ahead = [[] for _ in range(many)] + [[0] if k == i else [] for k in range(e)]
        found.append(("sized", ahead + [[0] for _ in range(behind)]))
    for _, row in sized:
        found.append(("sized", row + [[] for _ in range(e)] + [[0] for _ in range(behind)]))
    return found


def _rest(model, seen):
    """The rest of a model, None if its rank is less than the number of the unseen quantities."""
    _need(model, seen)
    frame = frame_of(model)
    unseen = others_of(seen, frame.many)
    state, _ = grown(frame, frame.exact + frame.sized, unseen)
    return Rest(model, state, unseen) if state.size() == len(unseen) else None


def watching(model, seen):
    """The number of free beginnings of the own grid, and the exact factor of the crowded one, or None."""
    rest = _rest(model, seen)
    if rest is None:
        return None
    _, _, (own_grid, other_grid) = rest.parted()
    return beginnings(own_grid), exact_factor(other_grid)


def unwatched(model, seen):
    found = watching(model, seen)
    return None if found is None else found[0] + degree(found[1])


def watching_paper(model, seen):
    rest = _rest(model, seen)
    if rest is None:
        return None
    changes, inverse, (own_grid, other_grid) = rest.parted()
    rows, columns, pairs = rest.state.assignment()
    crowded, own = factor_paper(other_grid), beginnings_paper(own_grid)
    return (rows, columns, pairs, rest.shown_ways(), changes, inverse, crowded, own)


def _shown_crowded(rest, told):
    """The crowded quantities, if the ways of a paper show them, otherwise None."""
    crowded = sorted([a for a, _ in told])
    if not are_ways(told, crowded, rest.stops, rest.turned_arcs):
        return None
    barred = {a: True for a in crowded}
    if not all(a in barred for a in rest.stops) or not all(a in rest.unseen for a in crowded):
        return None
    if any(a in rest.unseen and a not in barred for b in crowded for a in rest.turned_arcs[b]):
        return None
    return crowded


def check_watching(model, seen, number, factor, paper):
    _need(model, seen)
    rows, columns, pairs, told, changes, inverse, crowded, own = paper
    unseen, table = others_of(seen, len(model[0])), exact_table(model)
    state = state_of(model, rows, columns, pairs)
    if state is None or sorted(columns + [j for _, j in pairs]) != unseen:
        return False
    rest = Rest(model, state, unseen)
    shown = _shown_crowded(rest, told)
    if shown is None or not are_changes(changes, inverse, len(table)):
        return False
    grids = rest.grids(shown, product(changes, table))
    if grids is None:
        return False
    return check_factor(grids[1], factor, crowded) and check_beginnings(grids[0], number, own)
