"""The polynomials of the groups, and the leading polynomial of a model, whose product it is but for an integer."""

from unsaidsizes.base.tables import determinant, value_at
from unsaidsizes.errors import OutOfRange
from unsaidsizes.runs.ratios import plus, times
from unsaidsizes.values.split import Groups


def polynomial(model, k):
    """The polynomial of a group, in pairs."""
    found = Groups(model)
    found.need_group(k)
    return found.group_blocks()[k].polynomial()


def _shortest(told):
    """A pair of a polynomial with as few sizes as possible."""
    least = min([len(sizes) for sizes, _ in told])
    return [pair for pair in told if len(pair[0]) == least][0]


def factor(model):
    """The integer by which the product of all polynomials has to be multiplied."""
    found = Groups(model)
    for k in range(len(found.told)):
        found.need_few(k)
    said, product = [(0, 1)] * found.many, 1
    for block in found.group_blocks():
        # With 1 for its sizes and 0 for all others, just this pair is left.
        sizes, number = _shortest(block.polynomial())
        product = product * number
        for size in sizes:
            said[size] = (1, 1)
    # The changes multiply the leading polynomial by their determinant, an integer.
    return found.tight.value_at(said) // (determinant(value_at(found.paper[0], 0)) * product)


def value_of(told, sizes):
    """The value of a polynomial, in pairs, at fractions."""
    total = (0, 1)
    for own, number in told:
        part = (number, 1)
        for size in own:
            if not 0 <= size < len(sizes):
                raise OutOfRange(size)
            part = times(part, sizes[size])
        total = plus(total, part)
    return total
