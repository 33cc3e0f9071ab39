"""Models: pairs of a list of quantities and a list of laws."""

from unsaidsizes.models.laws import (
    copied_law, has_twice, is_exact, is_in_range, places_of, sizes_in, source_of, terms_of)
from unsaidsizes.models.names import is_name

MOST_QUANTITIES = 30
MOST_LAWS = 40


def _is_law(told, many):
    """True if a law of a model with so many quantities is one, its sizes aside."""
    places = places_of(told)
    if not is_in_range(told) or has_twice(places):
        return False
    if source_of(told) != "" and not is_name(source_of(told)):
        return False
    return all(0 <= j < many for _, j in places)


def is_model(model):
    quantities, laws = model
    if len(quantities) > MOST_QUANTITIES or len(laws) > MOST_LAWS:
        return False
    if not all(_is_law(told, len(quantities)) for told in laws):
        return False
    names = quantities + sizes_of(model)
    return all(is_name(name) for name in names) and not has_twice(names)


def copied_model(model):
    quantities, laws = model
    return (list(quantities), [copied_law(told) for told in laws])


def exact_degrees(model):
    """The sum of the degrees of the exact laws."""
    return sum([max([0] + [k for _, k, _ in terms_of(told)]) for told in model[1] if is_exact(told)])


def _powers_in(told, many):
    row = [None] * many
    for k, j in places_of(told):
        if row[j] is None or row[j] < k:
            row[j] = k
    return row


def powers(model):
    """For each law, the greatest order of each quantity in it, None if it has none."""
    quantities, laws = model
    return [_powers_in(told, len(quantities)) for told in laws]


def _exact_row(told, many):
    row = [[] for _ in range(many)]
    for number, k, j in terms_of(told):
        one = row[j]
        while len(one) <= k:
            one.append(0)
        one[k] = number
    return row


def exact_table(model):
    """For each exact law, the polynomial of each quantity in it."""
    quantities, laws = model
    return [_exact_row(told, len(quantities)) for told in laws if is_exact(told)]


def meetings(model):
    """For each sized law, the ascending list of the quantities of its places."""
    _, laws = model
    return [sorted({j for _, j in places_of(told)}) for told in laws if not is_exact(told)]


def exact_laws(model):
    _, laws = model
    return [i for i, told in enumerate(laws) if is_exact(told)]


def sized_laws(model):
    _, laws = model
    return [i for i, told in enumerate(laws) if not is_exact(told)]


def sizes_of(model):
    """The sizes, law by law, in the order of the terms."""
    _, laws = model
    return [size for told in laws for size in sizes_in(told)]
