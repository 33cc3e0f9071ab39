"""What hangs on the source of which law."""

from unsaidsizes.blocks.graph import fed
from unsaidsizes.blocks.ways import is_closed, is_way, way_to
from unsaidsizes.errors import Hangs, Loose, NotFull, Rests
from unsaidsizes.ranks.assign import greatest_state, state_of
from unsaidsizes.ranks.growing import reached
from unsaidsizes.ranks.needs import is_set, need_quantity, need_row


def _full_state(model):
    state = greatest_state(model)
    if state.size() < len(model[1]):
        raise NotFull(state.size())
    return state


def hangs(model):
    """For each law the ascending list of the tied quantities that hang on it."""
    state = _full_state(model)
    arcs, starts = state.arcs(), fed(state)
    loose = {j: True for j in reached(state.left_out(), arcs)}
    return [[j for j in reached(starts[i], arcs) if j not in loose] for i in range(len(model[1]))]


def _tied_state(model, quantity, i):
    """The state of an assignment with all laws, and the quantities that are loose."""
    state = _full_state(model)
    need_quantity(model, quantity)
    need_row(model, i)
    loose = reached(state.left_out(), state.arcs())
    if quantity in loose:
        raise Loose(quantity)
    return state, loose


def hangs_paper(model, quantity, i):
    state, loose = _tied_state(model, quantity, i)
    arcs, starts = state.arcs(), fed(state)[i]
    if quantity not in reached(starts, arcs):
        raise Rests(quantity)
    rows, columns, pairs = state.assignment()
    return (rows, columns, pairs, loose, way_to(starts, arcs, quantity))


def rests_paper(model, quantity, i):
    state, loose = _tied_state(model, quantity, i)
    poor = reached(loose + fed(state)[i], state.arcs())
    if quantity in poor:
        raise Hangs(quantity)
    rows, columns, pairs = state.assignment()
    return (rows, columns, pairs, poor)


def _shown_state(model, quantity, i, paper):
    """The state of the assignment of a paper if that has all laws and its set shows the quantity to be tied."""
    rows, columns, pairs, poor = paper
    if not 0 <= quantity < len(model[0]) or not 0 <= i < len(model[1]) or not is_set(model, poor):
        return None
    state = state_of(model, rows, columns, pairs)
    if state is None or state.size() < len(model[1]):
        return None
    if quantity in poor or not all(j in poor for j in state.left_out()) or not is_closed(poor, state.arcs()):
        return None
    return state


def check_hangs(model, quantity, i, paper):
    rows, columns, pairs, poor, way = paper
    state = _shown_state(model, quantity, i, (rows, columns, pairs, poor))
    if state is None or not is_way(way, state.arcs()):
        return False
    return way[0] in fed(state)[i] and way[-1] == quantity


def check_rests(model, quantity, i, paper):
    _, _, _, poor = paper
    state = _shown_state(model, quantity, i, paper)
    return state is not None and all(j in poor for j in fed(state)[i])
