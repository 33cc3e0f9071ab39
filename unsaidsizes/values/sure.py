"""Groups that no sizes above 0 make exceptional."""

from unsaidsizes.runs.ratios import minus, over, plus, times
from unsaidsizes.values.leading import value_of
from unsaidsizes.values.split import Groups


def _polynomial(model, k):
    """The sizes of a group and its polynomial, in which these are told by their places among them."""
    found = Groups(model)
    found.need_group(k)
    sizes, _ = found.told[k]
    place = {size: m for m, size in enumerate(sizes)}
    told = found.group_blocks()[k].polynomial()
    return len(sizes), [([place[size] for size in own], number) for own, number in told]


def _all_above(told):
    return all(number > 0 for _, number in told)


def is_sure(model, k):
    _, told = _polynomial(model, k)
    return _all_above(told)


def _outweighing(told, own, many):
    """Fractions above 0 at which one pair of a polynomial outweighs all others together."""
    most = 1 + sum([abs(number) for _, number in told])
    return [(most, 1) if size in own else (1, most) for size in range(many)]


def _between(told, one, two, size):
    """Sizes at which a polynomial is 0 between two that differ in one size alone; it has different signs there."""
    first, last = value_of(told, one), value_of(told, two)
    # Going in proportion from one to the other.
    share = over(first, minus(first, last))
    return one[:size] + [plus(one[size], times(share, minus(two[size], one[size])))] + one[size + 1:]


def weak_sizes(model, k):
    """Fractions above 0 for the sizes of a group at which its polynomial is 0, None if it is sure."""
    many, told = _polynomial(model, k)
    if _all_above(told):
        return None
    above = [own for own, number in told if number > 0][0]
    below = [own for own, number in told if number < 0][0]
    now, end = _outweighing(told, above, many), _outweighing(told, below, many)
    # At the end the value is below 0; so it changes its sign, or is 0, at some step.
    size, after = 0, end[:1] + now[1:]
    while value_of(told, after)[0] > 0:
        size, now = size + 1, after
        after = end[:size + 1] + now[size + 1:]
    return _between(told, now, after, size)
