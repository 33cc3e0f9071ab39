"""What a desk answers to questions about its model."""

from unsaidsizes.begin.depth import index
from unsaidsizes.begin.relax import beginnings
from unsaidsizes.blocks.blocks import parts
from unsaidsizes.blocks.tied import loose
from unsaidsizes.errors import NoName
from unsaidsizes.marks.grids import grid_of
from unsaidsizes.models.laws import with_quantities
from unsaidsizes.models.model import sizes_of
from unsaidsizes.models.texts import law_text
from unsaidsizes.pairing.corners import pairing
from unsaidsizes.pairing.instead import substitute
from unsaidsizes.ranks.needs import need_row
from unsaidsizes.steer.factor import exact_factor
from unsaidsizes.steer.steering import unsteered
from unsaidsizes.steer.watching import unwatched
from unsaidsizes.store.promises import is_whole
from unsaidsizes.values.groups import groups
from unsaidsizes.values.sure import is_sure

NOT_WHOLE = "not whole"


def _named(numbers, names):
    return " ".join([names[j] for j in numbers])


def _parted(texts):
    return "none" if texts == [] else " | ".join(texts)


def _loose(model):
    found = loose(model)
    return "none" if found == [] else _named(found, model[0])


def _blocks(model):
    if not is_whole(model):
        return NOT_WHOLE
    _, blocks, _ = parts(model)
    return _parted([_named(block, model[0]) for block in blocks])


def _begins(model):
    return str(beginnings(grid_of(model))) if is_whole(model) else NOT_WHOLE


def _index(model):
    return str(index(grid_of(model))) if is_whole(model) else NOT_WHOLE


def _laws(model):
    return str(len(model[1]))


def _told_law(model, i):
    need_row(model, i)
    return law_text(with_quantities(model[1][i], model[0]))


def _unsteered(model):
    return str(unsteered(model))


def _unwatched(model, names):
    if not all(name in model[0] for name in names):
        raise NoName(0)
    found = unwatched(model, sorted([model[0].index(name) for name in names]))
    return "none" if found is None else str(found)


def _factor(model):
    found = exact_factor(grid_of(model))
    return NOT_WHOLE if found is None else " ".join([str(number) for number in found])


def _groups(model):
    return _parted([_named(sizes, sizes_of(model)) for sizes in groups(model)])


def _sure(model, k):
    return "yes" if is_sure(model, k) else "no"


def _pairs(model):
    pairs = pairing(model, list(range(len(model[1]))), [])
    return _parted([f"{which} {model[0][j]}" for which, j in pairs])


def _instead(model, i):
    found = substitute(model, [], i)
    return "none" if found is None else model[0][found]


ANSWERS = {"loose": _loose, "blocks": _blocks, "begins": _begins, "index": _index, "laws": _laws,
           "unsteered": _unsteered, "factor": _factor, "groups": _groups, "pairs": _pairs}
ANSWERS_TO_ONE = {"law": _told_law, "unwatched": _unwatched, "sure": _sure, "instead": _instead}


def answer(model, command, told):
    """The answer to a question, with what it tells."""
    if command in ANSWERS:
        action = ANSWERS[command]
        return action(model)
    action = ANSWERS_TO_ONE[command]
    return action(model, told[0])
