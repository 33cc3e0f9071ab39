"""Single laws: tuples whose quantities are told by indexes or by texts."""

MOST_NUMBER = 1000000
MOST_ORDER = 3


def is_exact(told):
    return told[0] == "exact"


def terms_of(told):
    return told[1] if is_exact(told) else told[3]


def source_of(told):
    return told[-1]


def sizes_in(told):
    """The sizes of a law, in the order of its terms."""
    return [] if is_exact(told) else [size for size, _, _ in told[3]]


def places_of(told):
    """The places of a law, pairs of an order and a quantity, that in front first."""
    places = [(k, j) for _, k, j in terms_of(told)]
    return places if is_exact(told) else [(told[1], told[2])] + places


def has_twice(words):
    seen = {}
    for word in words:
        if word in seen:
            return True
        seen[word] = True
    return False


def is_in_range(told):
    """True if the numbers and orders of a law are in range, and a sized one has terms."""
    if not all(0 <= k <= MOST_ORDER for k, _ in places_of(told)):
        return False
    if is_exact(told):
        return all(number != 0 and -MOST_NUMBER <= number <= MOST_NUMBER for number, _, _ in told[1])
    return told[3] != []


def copied_law(told):
    return told[:-2] + (list(terms_of(told)), source_of(told))


def with_quantities(told, change):
    """The law with the quantity change[j] in the place of each quantity j."""
    terms = [(number, k, change[j]) for number, k, j in terms_of(told)]
    if is_exact(told):
        return ("exact", terms, source_of(told))
    return ("sized", told[1], change[told[2]], terms, source_of(told))
