"""The exact factor of a grid: what divides the determinant whatever the sizes are."""

from unsaidsizes.base.polys import degree, raised, times
from unsaidsizes.marks.ranks import grid_state
from unsaidsizes.steer.cycles import least_cycle, potentials
from unsaidsizes.steer.gcds import divided, gcd, is_factor, parted, squarefree
from unsaidsizes.steer.places import POWER, Arrangements, is_power


def _first(grid):
    """An arrangement of a grid, None if it is not full."""
    state = grid_state(grid)
    if state.size() < len(grid):
        return None
    _, columns, pairs = state.assignment()
    return columns, [j for _, j in pairs]


def _first_parts(known, columns, places):
    """Factors, prime to each other, one of which each zero of an arrangement belongs to."""
    minor, _ = known.minors.minor_at(columns)
    many, rest = parted(minor, list(POWER))
    found = [squarefree(rest)] if degree(rest) > 0 else []
    if many + known.order_of(places) > 0:
        found.append(list(POWER))
    return found


def _settled(known, part, columns, places):
    """For a factor, or the parts that it has to be parted into, arrangements with weights: tuples as in a paper."""
    found, queue = [], [(part, columns, places)]
    while queue:
        part, columns, places = queue.pop()
        shared, arcs = known.arcs(part, columns, places)
        if shared is not None:
            queue.extend([(divided(part, shared), columns, places), (shared, columns, places)])
            continue
        weights = potentials(known.width, arcs)
        if weights is None:
            # A cycle with more arcs than needed might not lead to an arrangement.
            columns, places = known.exchanged(columns, places, least_cycle(known.width, arcs))
            queue.append((part, columns, places))
        else:
            found.append((part, list(columns), list(places), weights))
    return found


def _product(parts, exponents):
    found = [1]
    for part, exponent in zip(parts, exponents):
        for _ in range(exponent):
            found = times(found, part)
    return found


def factor_and_paper(grid):
    """The exact factor and a paper of it, None if the grid is not full."""
    first = _first(grid)
    if first is None:
        return None
    columns, places = first
    known = Arrangements(grid)
    shown = []
    for part in _first_parts(known, columns, places):
        shown.extend(_settled(known, part, columns, places))
    exponents = [_exponent(known, told) for told in shown]
    return _product([part for part, _, _, _ in shown], exponents), (columns, places, shown)


def exact_factor(grid):
    """The exact factor, None if the grid is not full."""
    found = factor_and_paper(grid)
    return None if found is None else found[0]


def factor_paper(grid):
    """A paper that the check accepts with the exact factor, None if the grid is not full."""
    found = factor_and_paper(grid)
    return None if found is None else found[1]


def is_arrangement(grid, columns, places):
    return Arrangements(grid).is_one(columns, places)


def _may_be_part(part):
    return is_factor(part) and degree(part) > 0 and (is_power(part) or part[0] != 0)


def _divides(one, part, many):
    """True if a factor divides a polynomial other than nought at least so many times."""
    if many * degree(part) > degree(one):
        return False
    for _ in range(many):
        one = divided(one, part)
        if one is None:
            return False
    return True


def _exponent(known, told):
    """The exponent of the factor of a tuple of a paper, None if the tuple is not right."""
    part, columns, places, weights = told
    if not _may_be_part(part) or len(weights) != known.width or not known.has_form(columns, places):
        return None
    found = known.minors.minor_at(columns)
    if found is None:
        return None
    minor, exchanged = found
    many, rest = parted(minor, part)
    if gcd(rest, part) != [1]:
        return None
    if any(weights[b] - weights[a] > cost for a, b, cost in known.sized_arcs(part, places)):
        return None
    for (a, b), one in exchanged.items():
        if not _divides(one, part, many + weights[b] - weights[a]):
            return None
    return known.exponent(part, many, places)


def are_weights(grid, part, columns, places, weights):
    return _exponent(Arrangements(grid), (part, columns, places, weights)) is not None


def _exponents(known, shown):
    """The exponents of the factors of a paper, None if one is not right, or two are not prime to each other."""
    found, before = [], []
    for told in shown:
        part = told[0]
        if not _may_be_part(part) or any(gcd(part, other) != [1] for other in before):
            return None
        exponent = _exponent(known, told)
        if exponent is None:
            return None
        found.append(exponent)
        before.append(part)
    return found


def _are_all(known, columns, places, parts):
    """True if each zero of an arrangement belongs to one of some factors."""
    rest, _ = known.minors.minor_at(columns)
    if known.order_of(places) > 0:
        rest = raised(rest, 1)
    for part in parts:
        shared = gcd(rest, part)
        while shared != [1]:
            rest = divided(rest, shared)
            shared = gcd(rest, part)
    return degree(rest) == 0


def check_factor(grid, factor, paper):
    columns, places, shown = paper
    known = Arrangements(grid)
    if not known.is_one(columns, places):
        return False
    exponents = _exponents(known, shown)
    parts = [part for part, _, _, _ in shown]
    if exponents is None or not _are_all(known, columns, places, parts):
        return False
    # The degrees tell beforehand how long the product would be.
    if sum([degree(part) * many for part, many in zip(parts, exponents)]) != degree(factor):
        return False
    return _product(parts, exponents) == factor
