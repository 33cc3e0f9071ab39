"""Corner ranks, and the pairing that tells them all."""

from unsaidsizes.errors import OutOfRange
from unsaidsizes.ranks.frames import frame_of
from unsaidsizes.ranks.growing import grown
from unsaidsizes.ranks.needs import by_wishes, need_order, need_wishes


def corner(model, order, wishes, i, k):
    """The rank of the first i laws and the last k quantities."""
    need_order(model, order)
    need_wishes(model, wishes)
    if not 0 <= i <= len(model[1]):
        raise OutOfRange(i)
    if not 0 <= k <= len(model[0]):
        raise OutOfRange(k)
    row = by_wishes(model, wishes)
    state, _ = grown(frame_of(model), order[:i], row[len(row) - k:])
    return state.size()


def pairing(model, order, wishes):
    """Each law with the least dear quantity that makes the corners of the laws up to it greater."""
    need_order(model, order)
    need_wishes(model, wishes)
    candidates = list(reversed(by_wishes(model, wishes)))
    _, pairs = grown(frame_of(model), order, candidates)
    return pairs
