"""What has to be given in the place of a law that is left out."""

from unsaidsizes.blocks.givens import dearest_state, spare
from unsaidsizes.blocks.graph import fed
from unsaidsizes.ranks.frames import frame_of
from unsaidsizes.ranks.growing import grown, reached
from unsaidsizes.ranks.needs import by_wishes, need_order, need_row, need_wishes


def chain(model, order, wishes, i):
    """How the pairing changes if a law is left out: triples of a law and its quantities with and without that one."""
    need_order(model, order)
    need_wishes(model, wishes)
    need_row(model, i)
    frame, candidates = frame_of(model), list(reversed(by_wishes(model, wishes)))
    _, pairs = grown(frame, order, candidates)
    _, others = grown(frame, [which for which in order if which != i], candidates)
    before, after = dict(pairs), dict(others)
    return [(which, before.get(which), after.get(which)) for which in order
            if before.get(which) != after.get(which)]


def substitute(model, wishes, i):
    """The quantity that has to be given instead of a law, None if it is spare."""
    # It stands at the end of the chain, whatever the order is.
    told = chain(model, list(range(len(model[1]))), wishes, i)
    return None if told == [] else told[-1][1]


def substitutes(model, wishes):
    """For each law its substitute or None."""
    need_wishes(model, wishes)
    state = dearest_state(model, wishes)
    arcs, starts = state.arcs(), fed(state)
    order = by_wishes(model, wishes)
    barred = {i: True for i in spare(model)}
    found = []
    for i in range(len(model[1])):
        # What a law feeds could lose it, and so could all to which a way leads from there.
        lost = [] if i in barred else reached(starts[i], arcs)
        found.append(None if lost == [] else [j for j in order if j in lost][0])
    return found
