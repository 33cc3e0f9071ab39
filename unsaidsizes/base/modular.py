"""What polynomials have in common modulo primes 2^bits - 1."""

from math import gcd

from unsaidsizes.base.polys import trimmed


def _rest(one, two, prime):
    """A multiple of `one`, less one of `two`, with a lesser degree than `two`, which is not a number alone."""
    low, scale, lead = [0] * (len(two) - 1), 1, two[-1]
    # `low` is always the rest of what has been read of `one`, times the scale.
    for number in reversed(one):
        top = low[-1]
        low = [scale * number] + low[:-1]
        if top != 0:
            low = [(lead * own - top * other) % prime for own, other in zip(low, two)]
            scale = scale * lead % prime
    return trimmed([own % prime for own in low])


def _inverse(number, prime):
    """The residue whose product with a residue other than 0 is 1."""
    before, after, one, two = prime, number, 0, 1
    while after != 1:
        many = before // after
        before, after = after, before - many * after
        one, two = two, one - many * two
    return two % prime


def _signed(number, prime):
    return number - prime if number + number > prime else number


def common_modulo(one, two, bits):
    """What two polynomials other than nought have in common modulo a prime, as integers of the least amounts.

    Its last number is that of the greatest common factor, but for an integer
    that divides the last numbers of both; `[1]` if it is a number alone. None
    if a last number is divided by the prime.
    """
    prime = (1 << bits) - 1
    lead = gcd(one[-1], two[-1])
    one, two = [own % prime for own in one], [own % prime for own in two]
    if one[-1] == 0 or two[-1] == 0:
        return None
    while len(two) > 1:
        one, two = two, _rest(one, two, prime)
    if two != []:
        return [1]
    factor = lead * _inverse(one[-1], prime)
    return [_signed(own * factor % prime, prime) for own in one]
