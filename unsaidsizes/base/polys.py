"""Polynomials: lists of integers, the one at index k belonging to d^k, the last one not 0."""


def is_polynomial(numbers):
    return numbers == [] or numbers[-1] != 0


def trimmed(numbers):
    """The list without the zeros at its end."""
    length = len(numbers)
    while length > 0 and numbers[length - 1] == 0:
        length -= 1
    return numbers[:length]


def degree(one):
    return len(one) - 1


def value(one, at):
    total = 0
    for number in reversed(one):
        total = total * at + number
    return total


def plus(one, two):
    length = max(len(one), len(two))
    total = [0] * length
    for k, number in enumerate(one):
        total[k] = number
    for k, number in enumerate(two):
        total[k] = total[k] + number
    return trimmed(total)


def times(one, two):
    # With nought one of the loops is empty, and all zeros are trimmed.
    total = [0] * (len(one) + len(two))
    for k, number in enumerate(one):
        if number != 0:
            for m, other in enumerate(two):
                total[k + m] = total[k + m] + number * other
    return trimmed(total)


def scaled(one, number):
    """The product with an integer."""
    if number == 0:
        return []
    return [number * own for own in one]


def raised(one, k):
    """The product with d^k."""
    if one == []:
        return []
    return [0] * k + one
