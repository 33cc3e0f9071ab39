"""Number tables that stand for tables of polynomials.

The determinants of the parts of a table of polynomials are polynomials with
bounded degrees and bounded numbers. So at a great enough power of 2 none of
them is 0 that is not nought; and the values there are bounded, so none of
those is divided by a great enough prime. What is not dependent in the table
is not dependent among the residues either, and the other way round: no rank
and no nought is guessed. The primes are 2^bits - 1, as it is easy to divide
by these.
"""

from unsaidsizes.base.packing import packed

EXPONENTS = (61, 89, 107, 127, 521, 607, 1279, 2203, 2281, 3217, 4253, 4423, 9689, 9941, 11213, 19937,
             21701, 23209, 44497, 86243, 110503, 132049, 216091)


def norm(row):
    """The sum of the numbers of a row of polynomials without their signs, at least 1."""
    return max(1, sum([abs(number) for one in row for number in one]))


def step_of(rows, most):
    """How many bits bound the numbers of all determinants of at most so many of the rows."""
    bound = 1
    for many in sorted([norm(row) for row in rows], reverse=True)[:most]:
        bound = bound * many
    return bound.bit_length()


def quick_residues(table):
    """As `residues`, but for a small number and a small prime: what is 0 here need not be nought."""
    return _residues_at(table, 10, EXPONENTS[0]), EXPONENTS[0]


def _residues_at(table, step, bits):
    prime = (1 << bits) - 1
    return [[packed(one, step) % prime for one in row] for row in table]


def residues(table):
    """The rows of the residues, and the bits of the prime."""
    width = len(table[0]) if table else 0
    bound = step_of(table, width)
    # A polynomial other than nought has no zero that is greater than its
    # greatest number plus 1.
    step = bound + 1
    reaches = [max([0] + [len(one) - 1 for one in row]) for row in table]
    need = bound + step * sum(sorted(reaches, reverse=True)[:width])
    bits = min([exponent for exponent in EXPONENTS if exponent > need], default=EXPONENTS[-1])
    return _residues_at(table, step, bits), bits


def cleared(row, pivot, column, bits):
    """The row, times a residue, less a multiple of `pivot`: it has 0 at the column."""
    prime = (1 << bits) - 1
    up, down = pivot[column], row[column]
    sums = [up * own - down * other for own, other in zip(row, pivot)]
    # Folding the high bits back costs less than to divide long numbers.
    return [((number & prime) + (number >> bits)) % prime for number in sums]


def first_other(row):
    """The first column at which a row is not 0, or None."""
    for column, number in enumerate(row):
        if number != 0:
            return column
    return None


def pivots(rows, bits):
    """As many columns as there are rows that are not dependent, at which these are not dependent either."""
    left = list(rows)
    found = []
    while left:
        pivot = left.pop()
        column = first_other(pivot)
        if column is not None:
            found.append(column)
            left = [cleared(row, pivot, column, bits) if row[column] != 0 else row for row in left]
    return found


def residue_rank(rows, bits):
    return len(pivots(rows, bits))


def regular_columns(table):
    """As `pivots`, but for a table of polynomials."""
    # What is not 0 at some number and for some prime is not nought; so the
    # great prime is seldom needed if no rows are dependent.
    rows, bits = quick_residues(table)
    found = pivots(rows, bits)
    if len(found) == len(table):
        return found
    rows, bits = residues(table)
    return pivots(rows, bits)


def is_regular(table):
    """True if the determinant of a table with as many rows as columns is not nought."""
    return len(regular_columns(table)) == len(table)
