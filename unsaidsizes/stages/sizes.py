"""Fractions for all sizes of a model."""

from unsaidsizes.errors import BadSize, WrongSize
from unsaidsizes.models.laws import sizes_in
from unsaidsizes.models.model import sizes_of
from unsaidsizes.runs.ratios import is_ratio

MOST_PART = 1000


def _is_sayable(size):
    n, d = size
    return is_ratio(size) and -MOST_PART <= n <= MOST_PART and d <= MOST_PART


def need_sizes(model, sizes):
    """Raises an error if there is not one fraction with small parts for each size."""
    if len(sizes) != len(sizes_of(model)):
        raise WrongSize(len(sizes))
    for k, size in enumerate(sizes):
        if not _is_sayable(size):
            raise BadSize(k)


def sizes_by_law(model, sizes):
    """For each law the list of the fractions of its sizes, in the order of its terms."""
    found, at = [], 0
    for told in model[1]:
        many = len(sizes_in(told))
        found.append(sizes[at:at + many])
        at += many
    return found
