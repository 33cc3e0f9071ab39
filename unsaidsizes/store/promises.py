"""Promises about models, and the reasons why they do not hold."""

from unsaidsizes.base.polys import degree
from unsaidsizes.begin.depth import index
from unsaidsizes.begin.relax import beginnings, beginnings_paper
from unsaidsizes.blocks.blocks import needs, parts
from unsaidsizes.blocks.tied import loose, loose_paper
from unsaidsizes.marks.grids import grid_of
from unsaidsizes.ranks.assign import rank
from unsaidsizes.ranks.papers import rank_paper
from unsaidsizes.steer.steering import steering, steering_paper
from unsaidsizes.steer.watching import watching, watching_paper
from unsaidsizes.values.groups import groups
from unsaidsizes.values.split import MOST_SIZES
from unsaidsizes.values.sure import weak_sizes

# How many laws a model has at most, or quantities for "steered".
MOST = {"begins": 16, "sure": 16, "index": 8, "watched": 8, "steered": 16}


def copied_promise(promise):
    """A promise that has nothing in common with the one that is passed in."""
    if promise[0] == "watched":
        return ("watched", list(promise[1]), promise[2])
    return promise


def _names(promise):
    """The quantities that a promise names, in their order."""
    kind = promise[0]
    if kind == "watched":
        return promise[1]
    if kind == "tied":
        return [promise[1]]
    return [promise[1], promise[2]] if kind in ("ahead", "apart") else []


def is_whole(model):
    return len(model[0]) == len(model[1]) == rank(model)


def _first_reason(model, promise):
    """The reason if a promise fails before what it says itself is looked at, otherwise None."""
    kind, many = promise[0], len(model[1])
    for name in _names(promise):
        if name not in model[0]:
            return ("missing", name)
    if kind == "steered":
        if rank(model) < many:
            return ("not full", rank(model), rank_paper(model))
        many = len(model[0])
    elif kind not in ("tied", "watched") and not is_whole(model):
        return ("not whole", rank(model), rank_paper(model))
    if kind in MOST and many > MOST[kind]:
        return ("large", many)
    return None


def _reason_of_tied(model, promise):
    quantity = model[0].index(promise[1])
    return ("loose", loose_paper(model, quantity)) if quantity in loose(model) else None


def _reason_of_number(model, promise):
    grid = grid_of(model)
    if promise[0] == "index":
        number = index(grid)
        return None if number == promise[1] else ("number", number, None)
    number = beginnings(grid)
    return None if number == promise[1] else ("number", number, beginnings_paper(grid))


def _reason_of_order(model, promise):
    """For two blocks: the second one needs the first one, or neither needs the other."""
    _, blocks, _ = parts(model)
    place = {model[0][j]: k for k, block in enumerate(blocks) for j in block}
    one, two = place[promise[1]], place[promise[2]]
    told = needs(model)
    if promise[0] == "ahead":
        is_right = one in told[two]
    else:
        is_right = one != two and one not in told[two] and two not in told[one]
    return None if is_right else ("order", blocks)


def _reason_of_steered(model):
    number, factor = steering(model)
    if number + degree(factor) == 0:
        return None
    return ("unsteered", number, factor, steering_paper(model))


def _reason_of_watched(model, promise):
    seen = sorted([model[0].index(name) for name in promise[1]])
    found = watching(model, seen)
    if found is None:
        return ("blind",)
    number, factor = found
    if number + degree(factor) == promise[2]:
        return None
    return ("unwatched", number, factor, watching_paper(model, seen))


def _reason_of_sure(model):
    told = groups(model)
    for k, sizes in enumerate(told):
        if len(sizes) > MOST_SIZES:
            return ("wide", k)
    for k in range(len(told)):
        weak = weak_sizes(model, k)
        if weak is not None:
            return ("weak", k, weak)
    return None


def _own_reason(model, promise):
    """The reason for a model for which nothing else speaks against a promise."""
    kind = promise[0]
    if kind == "tied":
        return _reason_of_tied(model, promise)
    if kind in ("begins", "index"):
        return _reason_of_number(model, promise)
    if kind in ("ahead", "apart"):
        return _reason_of_order(model, promise)
    if kind == "steered":
        return _reason_of_steered(model)
    if kind == "watched":
        return _reason_of_watched(model, promise)
    return _reason_of_sure(model) if kind == "sure" else None


def reason(model, promise):
    """Why a promise does not hold, None if it does."""
    found = _first_reason(model, promise)
    return _own_reason(model, promise) if found is None else found


def holds(model, promise):
    return reason(model, promise) is None
