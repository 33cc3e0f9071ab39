"""What polynomials have in common, and their lowest forms."""

from math import gcd

from unsaidsizes.base.modular import common_modulo
from unsaidsizes.base.polys import trimmed

# How many bits the primes have with which common factors are looked for: of
# each about twice as many as of the one before.
ATTEMPTS = (61, 127, 521, 1279, 3217, 9689, 23209, 86243)


def content(one):
    """The greatest integer that divides all numbers; 0 for nought."""
    found = 0
    for number in one:
        found = gcd(found, number)
        if found == 1:
            return 1
    return found


def without_content(one):
    most = content(one)
    return [number // most for number in one] if most > 1 else list(one)


def _rest(one, two):
    """A multiple of `one` by an integer, less a multiple of `two`, with a lesser degree than `two`."""
    rest = list(one)
    while len(rest) >= len(two):
        shared = gcd(rest[-1], two[-1])
        up, down, low = two[-1] // shared, rest[-1] // shared, len(rest) - len(two)
        rest = [up * own for own in rest]
        for k, other in enumerate(two):
            rest[low + k] = rest[low + k] - down * other
        rest = trimmed(rest)
    return rest


def _common_by_rests(one, two):
    while two != []:
        one, two = two, without_content(_rest(one, two))
    return one


def whole_quotient(one, two):
    """The polynomial with integers whose product with `two`, which is not nought, is `one`; None if there is none."""
    rest, many = list(one), max(0, len(one) - len(two) + 1)
    found = [0] * many
    for k in reversed(range(many)):
        number, left = divmod(rest[k + len(two) - 1], two[-1])
        if left != 0:
            return None
        found[k] = number
        if number != 0:
            for m, other in enumerate(two):
                rest[k + m] = rest[k + m] - number * other
    return None if any(number != 0 for number in rest) else found


def common(one, two):
    """The polynomial of the greatest degree that divides both of two, without content."""
    one, two = without_content(one), without_content(two)
    if one == [] or two == []:
        return one + two
    for bits in ATTEMPTS:
        # Modulo a prime the degree is never less; what divides both is right.
        found = common_modulo(one, two, bits)
        if found is not None:
            found = without_content(found)
            if whole_quotient(one, found) is not None and whole_quotient(two, found) is not None:
                return found
    return _common_by_rests(one, two)


def lowest_forms(many):
    """Polynomials, not all of them nought, divided by all that divides each of them."""
    shared = []
    for one in many:
        shared = common(shared, one)
    reduced = [whole_quotient(one, shared) for one in many]
    most = content([number for one in reduced for number in one])
    return [[number // most for number in one] for one in reduced]
