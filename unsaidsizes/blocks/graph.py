"""The arcs between quantities for an assignment of the greatest size."""

from unsaidsizes.errors import NotFull, NotGreatest
from unsaidsizes.ranks.assign import rank, state_of
from unsaidsizes.ranks.circuits import with_own
from unsaidsizes.ranks.frames import Frame
from unsaidsizes.ranks.growing import placed, reached
from unsaidsizes.ranks.needs import need_row


def greatest(model, rows, columns, pairs):
    """The state of three lists, if they are an assignment of the greatest size."""
    state = state_of(model, rows, columns, pairs)
    if state is None or _can_grow(state):
        raise NotGreatest(rank(model))
    return state


def _can_grow(state):
    ends = {j: True for j in state.exits()}
    return any(j in ends for j in reached(state.left_out(), state.arcs()))


def arcs(model, rows, columns, pairs):
    return greatest(model, rows, columns, pairs).arcs()


def left_out(model, rows, columns, pairs):
    return greatest(model, rows, columns, pairs).left_out()


def exits(model, rows, columns, pairs):
    return greatest(model, rows, columns, pairs).exits()


def feeds(model, rows, columns, pairs, i):
    """The quantities at which the source of a law comes in first."""
    state = greatest(model, rows, columns, pairs)
    need_row(model, i)
    if state.size() < len(model[1]):
        raise NotFull(state.size())
    return fed(state)[i]


def fed(state):
    """What each law feeds, for the state of an assignment with all laws."""
    found = {which: [j] for j, which in state.paired.items()}
    # Solved for the columns, the law of a row stands with a number that is not
    # 0 just where the other laws and columns have a determinant that is not nought.
    frame = state.frame
    wide = Frame(frame.many, with_own(frame, state.rows), {}, frame.bits)
    solved = placed(wide, state.rows, state.columns)
    for k, which in enumerate(state.rows):
        met = [j for j, vector in zip(solved.columns, solved.vectors) if vector[frame.many + k] != 0]
        found[which] = sorted(met)
    return found
