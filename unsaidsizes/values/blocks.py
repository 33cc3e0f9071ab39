"""The tight blocks of models in which sizes stand: those of one group in each."""

from unsaidsizes.base.lowest import content
from unsaidsizes.base.tables import determinant
from unsaidsizes.runs.ratios import common_below, whole


def _sign(order):
    """1 or -1: the sign of an order of the numbers from 0 on."""
    many = 0
    for k, number in enumerate(order):
        many += sum([1 for other in order[:k] if other > number])
    return -1 if many & 1 else 1


def _told(numbers):
    """The pairs for a dict from tuples of sizes to integers: without content, the first integer above 0."""
    keys = sorted([key for key in numbers if numbers[key] != 0])
    most = content([numbers[key] for key in keys])
    if numbers[keys[0]] < 0:
        most = -most
    return [(list(key), numbers[key] // most) for key in keys]


def said_row(row, said, many):
    """The numbers of a sized row for fractions of the sizes, times the least integer that makes them whole."""
    numbers = [(1, 1) if size is None else said[size] for size in row.values()]
    found = [0] * many
    for (j, size), number in zip(row.items(), whole(numbers, common_below(numbers))):
        found[j] = number if size is None else -number
    return found


class Block:
    """A tight block.

    `exact` has its exact rows, `sized` for each of its sized rows a dict from
    its columns to their sizes, None at the place in front.
    """

    def __init__(self, exact, sized):
        self.exact = exact
        self.sized = sized
        self.many = len(exact) + len(sized)

    def value_at(self, said):
        """The determinant for fractions of the sizes, times an integer above 0 that hangs on the denominators alone."""
        return determinant(self.exact + [said_row(row, said, self.many) for row in self.sized])

    def givings(self):
        """All ways to give different columns to the sized rows, each with the sizes there."""
        found = [([], [])]
        for row in self.sized:
            found = [(columns + [j], sizes if size is None else sizes + [size])
                     for columns, sizes in found for j, size in row.items() if j not in columns]
        return found

    def polynomial(self):
        """The polynomial of the group, in pairs, by expanding the determinant by the sized rows."""
        found, minors = {}, {}
        for columns, sizes in self.givings():
            rest = [j for j in range(self.many) if j not in columns]
            key = tuple(rest)
            if key not in minors:
                minors[key] = determinant([[row[j] for j in rest] for row in self.exact])
            # Each size stands with a minus in its row.
            sign = -_sign(rest + columns) if len(sizes) & 1 else _sign(rest + columns)
            found[tuple(sorted(sizes))] = sign * minors[key]
        return _told(found)
