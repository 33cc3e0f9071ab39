"""Relations between exact laws."""

from unsaidsizes.base.elimination import solved_whole
from unsaidsizes.base.lowest import lowest_forms
from unsaidsizes.base.packing import packed, unpacked
from unsaidsizes.base.polys import degree, is_polynomial, plus, scaled, times
from unsaidsizes.base.residues import regular_columns, step_of
from unsaidsizes.errors import NotExact, WrongSize
from unsaidsizes.models.laws import is_exact, source_of
from unsaidsizes.models.model import exact_laws, exact_table
from unsaidsizes.ranks.circuits import circuits
from unsaidsizes.ranks.frames import frame_of


def _simple_first(table, laws):
    """The laws in ascending order of their degrees, so that numbers become great late."""
    degrees = [(max([0] + [degree(one) for one in table[which]]), which) for which in laws]
    return [which for _, which in sorted(degrees)]


def _multipliers(table, laws):
    """For each law of a circuit, the polynomial, in lowest forms, with which it adds to nought.

    Cramer's rule gives determinants, whose polynomials can be read off their
    values at a great power of 2.
    """
    last = laws[-1]
    others = _simple_first(table, laws[:-1])
    step = step_of([table[which] for which in laws], len(laws)) + 1
    columns = regular_columns([table[which] for which in others])
    numbers = [[packed(table[which][j], step) for which in others] for j in columns]
    right = [packed(table[last][j], step) for j in columns]
    own, found = solved_whole(numbers, right)
    forms = lowest_forms([unpacked(own, step)] + [unpacked(-number, step) for number in found])
    sign = 1 if forms[0][-1] > 0 else -1
    return {which: scaled(one, sign) for which, one in zip([last] + others, forms)}


def relations(model):
    """The exact laws that depend, each with its told relation."""
    frame = frame_of(model)
    table = {which: row for which, row in zip(frame.exact, exact_table(model))}
    found = []
    for which, laws in circuits(frame, list(range(frame.many))):
        relation = [[] for _ in model[1]]
        for other, one in _multipliers(table, laws).items():
            relation[other] = one
        found.append((which, relation))
    return found


def demand(model, multipliers):
    """What a list of polynomials for the laws asks of the sources."""
    laws = model[1]
    if len(multipliers) != len(laws):
        raise WrongSize(len(multipliers))
    sums = {}
    for i, told in enumerate(laws):
        if is_exact(told):
            sums[source_of(told)] = plus(sums.get(source_of(told), []), multipliers[i])
        elif multipliers[i] != []:
            raise NotExact(i)
    return [(source, list(sums[source])) for source in sorted(sums) if source != "" and sums[source] != []]


def _has_form(model, multipliers):
    if len(multipliers) != len(model[1]) or not all(is_polynomial(one) for one in multipliers):
        return False
    if not all(is_exact(told) or one == [] for told, one in zip(model[1], multipliers)):
        return False
    return any(one != [] for one in multipliers)


def check_relation(model, multipliers):
    if not _has_form(model, multipliers):
        return False
    table = exact_table(model)
    used = [multipliers[i] for i in exact_laws(model)]
    for j in range(len(model[0])):
        total = []
        for one, row in zip(used, table):
            total = plus(total, times(one, row[j]))
        if total != []:
            return False
    return True
