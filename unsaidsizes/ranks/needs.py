"""What the functions of the interface need of their arguments, and the errors if they do not get it."""

from unsaidsizes.errors import BadOrder, BadWish, NoLaw, NoQuantity, NotASet


def first_not_new(numbers, many):
    """The first index at which there is no number below `many`, or one that stood before; None without."""
    seen = {}
    for k, number in enumerate(numbers):
        if not 0 <= number < many or number in seen:
            return k
        seen[number] = True
    return None


def first_not_rising(numbers, many):
    """The first index at which there is no number below `many`, or one not above the one ahead of it."""
    for k, number in enumerate(numbers):
        if not 0 <= number < many or (k > 0 and number <= numbers[k - 1]):
            return k
    return None


def is_set(model, columns):
    return first_not_rising(columns, len(model[0])) is None


def need_set(model, columns):
    at = first_not_rising(columns, len(model[0]))
    if at is not None:
        raise NotASet(at)


def need_quantity(model, quantity):
    if not 0 <= quantity < len(model[0]):
        raise NoQuantity(quantity)


def need_row(model, i):
    if not 0 <= i < len(model[1]):
        raise NoLaw(i)


def need_wishes(model, wishes):
    at = first_not_new(wishes, len(model[0]))
    if at is not None:
        raise BadWish(at)


def need_order(model, order):
    at = first_not_new(order, len(model[1]))
    if at is None and len(order) < len(model[1]):
        at = len(order)
    if at is not None:
        raise BadOrder(at)


def by_wishes(model, wishes):
    """All quantities, the dearest one first."""
    named = {j: True for j in wishes}
    return wishes + [j for j in range(len(model[0])) if j not in named]
