"""Which exact laws depend on which others."""

from unsaidsizes.base.residues import cleared, first_other


def circuits(frame, columns):
    """The pairs of an exact law that depends, at some columns, and of the laws of its relation.

    These are the ascending lists of the law and of those laws before it that
    do not depend and have a polynomial other than nought in the relation.
    """
    width = len(columns)
    found = []
    kept = []
    for at, which in enumerate(frame.exact):
        # Behind the columns each law has one of its own, to tell what it gives.
        own = [1 if k == at else 0 for k in range(len(frame.exact))]
        vector = [frame.rows[which][j] for j in columns] + own
        for column, pivot in kept:
            if vector[column] != 0:
                vector = cleared(vector, pivot, column, frame.bits)
        column = first_other(vector[:width])
        if column is None:
            laws = [frame.exact[k] for k, number in enumerate(vector[width:]) if number != 0]
            found.append((which, laws))
        else:
            kept.append((column, vector))
    return found
