"""Factors of polynomials: without content, and with a last number above 0."""

from unsaidsizes.base.lowest import common, whole_quotient, without_content
from unsaidsizes.base.polys import scaled, trimmed


def primitive(one):
    """The lowest form: the factor of which a polynomial is a multiple by an integer."""
    own = without_content(one)
    return scaled(own, -1) if own != [] and own[-1] < 0 else own


def gcd(one, two):
    return primitive(common(one, two))


def divided(one, two):
    """The polynomial whose product with the factor `two` is `one`, None if there is none."""
    return whole_quotient(one, two)


def often(one, two):
    """How many times a factor divides a polynomial other than nought."""
    many, _ = parted(one, two)
    return many


def parted(one, two):
    """How many times a factor divides a polynomial other than nought, and what is left of it then."""
    many = 0
    while True:
        rest = divided(one, two)
        if rest is None:
            return many, one
        many, one = many + 1, rest


def squarefree(one):
    """The factor of the greatest degree that divides a polynomial other than nought, and that no square divides."""
    slope = trimmed([k * number for k, number in enumerate(one)][1:])
    return primitive(whole_quotient(primitive(one), gcd(one, slope)))


def is_factor(numbers):
    """True if a list of integers is a factor."""
    return numbers != [] and numbers[-1] > 0 and primitive(numbers) == numbers
