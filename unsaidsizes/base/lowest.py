"""What polynomials have in common, and their lowest forms."""

from math import gcd

from unsaidsizes.base.polys import plus, raised, scaled


def content(one):
    """The greatest integer that divides all numbers; 0 for nought."""
    found = 0
    for number in one:
        found = gcd(found, number)
    return found


def without_content(one):
    most = content(one)
    return [number // most for number in one]


def _rest(one, two):
    """A multiple of `one` by an integer, less a multiple of `two`, with a lesser degree than `two`."""
    while len(one) >= len(two):
        shared = gcd(one[-1], two[-1])
        lower = raised(scaled(two, one[-1] // shared), len(one) - len(two))
        one = plus(scaled(one, two[-1] // shared), scaled(lower, -1))
    return one


def common(one, two):
    """The polynomial of the greatest degree that divides both of two, without content."""
    while two != []:
        one, two = two, without_content(_rest(one, two))
    return without_content(one)


def quotient(one, two):
    """The polynomial whose product with `two`, which divides `one`, is `one`."""
    found = []
    while one != []:
        up = len(one) - len(two)
        number = one[-1] // two[-1]
        found = plus(found, raised([number], up))
        one = plus(one, raised(scaled(two, -number), up))
    return found


def lowest_forms(many):
    """Polynomials, not all of them nought, divided by all that divides each of them."""
    shared = []
    for one in many:
        shared = common(shared, one)
    reduced = [quotient(one, shared) for one in many]
    most = content([number for one in reduced for number in one])
    return [[number // most for number in one] for one in reduced]
