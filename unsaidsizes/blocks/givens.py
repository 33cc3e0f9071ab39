"""Quantities that complete a model when they are given, and laws that it can do without."""

from unsaidsizes.ranks.assign import greatest_state, least_sets, rank, value
from unsaidsizes.ranks.circuits import circuits
from unsaidsizes.ranks.frames import frame_of
from unsaidsizes.ranks.growing import grown, reached
from unsaidsizes.ranks.needs import by_wishes, is_set, need_order, need_set, need_wishes
from unsaidsizes.ranks.papers import check_rank


def completes(model, columns):
    need_set(model, columns)
    frame = frame_of(model)
    given = {j: True for j in columns}
    others = [j for j in range(frame.many) if j not in given]
    state, _ = grown(frame, frame.exact + frame.sized, others)
    return state.size() == len(others) and len(others) == rank(model)


def dearest_state(model, wishes):
    """The state of an assignment of the greatest size that lacks the dearest completing set."""
    frame = frame_of(model)
    # Who takes what is least dear first leaves out what is dearest.
    candidates = list(reversed(by_wishes(model, wishes)))
    state, _ = grown(frame, frame.exact + frame.sized, candidates)
    return state


def dearest(model, wishes):
    need_wishes(model, wishes)
    return dearest_state(model, wishes).left_out()


def _behind(quantities, order, limit):
    """Those of some quantities that stand behind one of an order."""
    place = {j: k for k, j in enumerate(order)}
    return [j for j in quantities if place[j] > place[limit]]


def givens_paper(model, wishes):
    need_wishes(model, wishes)
    state = dearest_state(model, wishes)
    rows, columns, pairs = state.assignment()
    arcs = state.arcs()
    given = state.left_out()
    order = by_wishes(model, wishes)
    others = sorted(columns + [j for _, j in pairs])
    # From what is given and less dear than a quantity no way leads to it:
    # otherwise it could be given instead.
    sets = [reached(_behind(given, order, j), arcs) for j in others]
    return (rows, columns, pairs, reached(given, arcs), sets)


def _shows(model, poor, barred, size):
    """True if a set without the barred quantities shows that the others have a lesser rank."""
    if not is_set(model, poor) or any(j in barred for j in poor):
        return False
    return len(model[0]) - len(barred) + value(model, poor) < size


def check_givens(model, wishes, columns, paper):
    need_wishes(model, wishes)
    rows, own, pairs, poor, sets = paper
    size = len(own) + len(pairs)
    if not is_set(model, columns) or not check_rank(model, size, (rows, own, pairs, poor)):
        return False
    others = sorted(own + [j for _, j in pairs])
    if sorted(others + columns) != list(range(len(model[0]))) or len(sets) != size:
        return False
    order = by_wishes(model, wishes)
    for j, shown in zip(others, sets):
        behind = _behind(columns, order, j)
        barred = [j] + [given for given in columns if given not in behind]
        if not _shows(model, shown, barred, size):
            return False
    return True


def spare(model):
    """The ascending list of the laws without which the rank is the same."""
    frame = greatest_state(model).frame
    # A law that is needed shows itself in each least set that it has to do with.
    columns = least_sets(model)[1]
    found = [which for which in frame.sized if not frame.falls(which, columns)]
    for _, laws in circuits(frame, columns):
        found.extend(laws)
    return [i for i in range(len(model[1])) if i in found]


def kept(model, order):
    """The ascending list of the laws that make the rank of those before them in an order greater."""
    need_order(model, order)
    frame = frame_of(model)
    _, pairs = grown(frame, order, list(range(frame.many)))
    return sorted([which for which, _ in pairs])
