"""How many beginnings of a full model nothing that is loose can steer."""

from unsaidsizes.base.inverses import are_changes
from unsaidsizes.base.polys import degree
from unsaidsizes.base.tables import product
from unsaidsizes.begin.relax import beginnings, beginnings_paper, check_beginnings
from unsaidsizes.blocks.ways import are_ways, is_closed, ways
from unsaidsizes.errors import NotFull, TooLarge, WrongSize
from unsaidsizes.models.model import exact_table
from unsaidsizes.ranks.assign import greatest_state, state_of
from unsaidsizes.ranks.growing import reached
from unsaidsizes.steer.factor import check_factor, exact_factor, factor_paper
from unsaidsizes.steer.parting import exact_at, others_of, parted_rows, parting, sized_at

MOST_QUANTITIES = 16


def _need_few(model):
    if len(model[0]) > MOST_QUANTITIES:
        raise TooLarge(len(model[0]))


def _full_state(model):
    """The state of an assignment with all laws, and the loose quantities."""
    _need_few(model)
    state = greatest_state(model)
    if state.size() < len(model[1]):
        raise NotFull(state.size())
    return state, reached(state.left_out(), state.arcs())


def _grids(model, frame, loose, rows):
    """The moved and the tied grid for the changed exact rows, None if these are not parted as they have to be."""
    own, others = parted_rows(rows, loose)
    if len(own) != frame.exact_rank(frame.exact, loose):
        return None
    falling = frame.falling(frame.sized, loose)
    resting = [which for which in frame.sized if which not in falling]
    tied = others_of(loose, frame.many)
    more = [("sized", [[0] for _ in loose]) for _ in range(frame.many - len(model[1]))]
    moved_grid = exact_at(own, loose) + sized_at(model, falling, loose) + more
    return moved_grid, exact_at(others, tied) + sized_at(model, resting, tied)


def _parted(model, state, loose):
    """Changes, their inverse, and the moved and the tied grid for them."""
    table = exact_table(model)
    changes, inverse = parting(table, len(model[0]), loose)
    return changes, inverse, _grids(model, state.frame, loose, product(changes, table))


def steering(model):
    """The number of free beginnings of the tied grid, and the exact factor of the moved one."""
    state, loose = _full_state(model)
    _, _, (moved_grid, tied_grid) = _parted(model, state, loose)
    return beginnings(tied_grid), exact_factor(moved_grid)


def unsteered(model):
    number, factor = steering(model)
    return number + degree(factor)


def split(model, changes):
    """The moved and the tied grid for changes, None if these do not part the exact rows."""
    state, loose = _full_state(model)
    table = exact_table(model)
    if len(changes) != len(table) or not all(len(row) == len(table) for row in changes):
        raise WrongSize(0)
    return _grids(model, state.frame, loose, product(changes, table))


def steering_paper(model):
    state, loose = _full_state(model)
    changes, inverse, (moved_grid, tied_grid) = _parted(model, state, loose)
    rows, columns, pairs = state.assignment()
    shown = ways(state.left_out(), state.arcs())
    return (rows, columns, pairs, shown, changes, inverse, factor_paper(moved_grid), beginnings_paper(tied_grid))


def _shown_loose(model, state, told):
    """The loose quantities, if the ways of a paper show them, otherwise None."""
    arcs, left = state.arcs(), state.left_out()
    loose = sorted([a for a, _ in told])
    if state.size() < len(model[1]) or not are_ways(told, loose, left, arcs):
        return None
    if not all(a in loose for a in left) or not is_closed(loose, arcs):
        return None
    return loose


def check_steering(model, number, factor, paper):
    _need_few(model)
    rows, columns, pairs, told, changes, inverse, moved, tied = paper
    table = exact_table(model)
    state = state_of(model, rows, columns, pairs)
    if state is None or not are_changes(changes, inverse, len(table)):
        return False
    loose = _shown_loose(model, state, told)
    if loose is None:
        return False
    grids = _grids(model, state.frame, loose, product(changes, table))
    if grids is None:
        return False
    return check_factor(grids[0], factor, moved) and check_beginnings(grids[1], number, tied)
