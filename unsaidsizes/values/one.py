"""The fractions of one size with which a model is exceptional."""

from unsaidsizes.runs.ratios import ratio
from unsaidsizes.values.split import Groups


def _zero(block, sizes, k):
    """The pair of the value at 0 and the slope of the determinant of a block, as a function of one size."""
    low = block.value_at(sizes[:k] + [(0, 1)] + sizes[k + 1:])
    return low, block.value_at(sizes[:k] + [(1, 1)] + sizes[k + 1:]) - low


def forbidden(model, sizes, k):
    """What size k must not be if all others are said."""
    found = Groups(model)
    found.need_sizes(sizes)
    found.need_size(k)
    own = found.group_of(k)
    blocks = found.group_blocks()
    if any(block.value_at(sizes) == 0 for at, block in enumerate(blocks) if at != own):
        return ("always",)
    if own is None:
        return ("never",)
    low, slope = _zero(blocks[own], sizes, k)
    if slope == 0:
        return ("always",) if low == 0 else ("never",)
    return ("once", ratio(-low, slope))


def alone(model, k):
    """The fraction of a size with which the model is exceptional if it is alone in its group, otherwise None."""
    found = Groups(model)
    found.need_size(k)
    own = found.group_of(k)
    if own is None or len(found.told[own][0]) > 1:
        return None
    low, slope = _zero(found.group_blocks()[own], [(0, 1)] * found.many, k)
    return ratio(-low, slope)
