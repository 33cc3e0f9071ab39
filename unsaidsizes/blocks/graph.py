"""The arcs between quantities for an assignment of the greatest size."""

from unsaidsizes.errors import NotFull, NotGreatest
from unsaidsizes.models.laws import is_exact
from unsaidsizes.ranks.assign import rank, state_of
from unsaidsizes.ranks.growing import State, reached
from unsaidsizes.ranks.needs import need_row


def greatest(model, rows, columns, pairs):
    """The state of three lists, if they are an assignment of the greatest size."""
    state = state_of(model, rows, columns, pairs)
    if state is None or _can_grow(state):
        raise NotGreatest(rank(model))
    return state


def _can_grow(state):
    ends = {j: True for j in state.exits()}
    return any(j in ends for j in reached(state.left_out(), state.arcs()))


def arcs(model, rows, columns, pairs):
    return greatest(model, rows, columns, pairs).arcs()


def left_out(model, rows, columns, pairs):
    return greatest(model, rows, columns, pairs).left_out()


def exits(model, rows, columns, pairs):
    return greatest(model, rows, columns, pairs).exits()


def feeds(model, rows, columns, pairs, i):
    """The quantities at which the source of a law comes in first."""
    state = greatest(model, rows, columns, pairs)
    need_row(model, i)
    if state.size() < len(model[1]):
        raise NotFull(state.size())
    if not is_exact(model[1][i]):
        return [j for which, j in pairs if which == i]
    return _fed(state.frame, [which for which in rows if which != i], columns)


def _fed(frame, others, columns):
    """The columns without which the other exact laws have a determinant that is not nought."""
    state = State(frame)
    for which in others:
        vector = state.reduced(which)
        state.put_row(which, [j for j in columns if vector[j] != 0][0], vector)
    last = [j for j in columns if j not in state.columns][0]
    return sorted([last] + state.arcs_from(last))
