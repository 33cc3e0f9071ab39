"""Which exact laws depend on which others."""

from unsaidsizes.base.residues import first_other


def with_own(frame, order):
    """The rows of exact laws, each with a column of its own behind them, to tell what it gives to others."""
    found = {}
    for at, which in enumerate(order):
        found[which] = frame.rows[which] + [1 if k == at else 0 for k in range(len(order))]
    return found


def dependent(frame, order, columns):
    """The exact laws of an order that depend, at some columns, on those before them that do not.

    Each one comes with a list of numbers, one for each law of the order: the
    laws, times these, add to nought. No law behind it has another one than 0.
    """
    rows = with_own(frame, order)
    found, kept = [], []
    for which in order:
        vector = rows[which]
        for column, pivot in kept:
            if vector[column] != 0:
                vector = frame.cleared(vector, pivot, column)
        at = first_other([vector[j] for j in columns])
        if at is None:
            found.append((which, vector[frame.many:]))
        else:
            kept.append((columns[at], vector))
    return found


def circuits(frame, columns):
    """The pairs of an exact law that depends, at some columns, and of the laws of its relation.

    These are the ascending lists of the law and of those laws before it that
    do not depend and have a polynomial other than nought in the relation.
    """
    found = []
    for which, numbers in dependent(frame, frame.exact, columns):
        found.append((which, [other for other, number in zip(frame.exact, numbers) if number != 0]))
    return found
