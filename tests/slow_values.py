"""Slow reckoning with leading polynomials: dicts from frozensets of sizes to integers."""

import random
from fractions import Fraction
from itertools import combinations

from tests.helpers import made_up
from tests.slow_grids import made_grid, mixed


def model_of(grid, chance):
    """A model with this grid; sized rows with fewer than two places get more."""
    laws, at, n = [], 0, len(grid)
    for kind, row in grid:
        if kind == "exact":
            laws.append(("exact", [(c, k, j) for j, one in enumerate(row) for k, c in enumerate(one) if c], ""))
            continue
        places = [(k, j) for j, one in enumerate(row) for k in one]
        while len(places) < 2:
            places = sorted(set(places) | {(chance.randint(0, 3), chance.randrange(n))})
        chance.shuffle(places)
        laws.append(("sized", places[0][0], places[0][1], [(f"s{at + m}", k, j) for m, (k, j) in enumerate(places[1:])], ""))
        at += len(places) - 1
    return ([f"q{j}" for j in range(n)], laws)


def square_models(many, seed=1001, most=4):
    """Square models of all kinds; in many of them last numbers of exact laws cancel."""
    chance = random.Random(seed)
    found = [([], []), (["a"], [("exact", [(2, 1, 0)], "")]), (["a"], [("exact", [], "")])]
    while len(found) < many:
        n = chance.randint(1, most)
        if chance.random() < 0.5:
            found.append(made_up(chance.randrange(10 ** 6), n, n, chance.choice([0, 0.2, 0.4, 0.6]), chance.choice([1, 2, 3]),
                                 chance.choice([2, 3]), 6, chance.choice([0, 0, 1, 2])))
        else:
            grid = made_grid(chance, n, chance.choice([0.3, 0.6]), chance.choice([0.5, 0.8]), chance.choice([0, 1, 1, 2]), chance.choice([1, 3]))
            found.append(model_of(mixed(chance, grid, chance.choice([0, 3, 8])), chance))
    return found


def slow_times(one, two):
    found = {}
    for own, number in one.items():
        for other, more in two.items():
            assert not own & other
            found[own | other] = found.get(own | other, 0) + number * more
    return {own: number for own, number in found.items() if number}


def slow_leading(model):
    """The leading polynomial by expanding the determinant; None if this is nought."""
    many, rows, at = len(model[0]), [], 0
    for told in model[1]:
        row = [{} for _ in range(many)]
        if told[0] == "exact":
            for number, k, j in told[1]:
                row[j][k] = {frozenset(): number}
        else:
            row[told[2]][told[1]] = {frozenset(): 1}
            for size, (_, k, j) in enumerate(told[3], at):
                row[j][k] = {frozenset([size]): -1}
            at += len(told[3])
        rows.append(row)
    total = {}

    def expand(i, used, now, sign):
        if i == many:
            for k, one in now.items():
                for own, number in one.items():
                    total.setdefault(k, {})
                    total[k][own] = total[k].get(own, 0) + sign * number
            return
        for j in range(many):
            if j not in used and rows[i][j]:
                after = {}
                for k, one in now.items():
                    for m, two in rows[i][j].items():
                        for own, number in slow_times(one, two).items():
                            after.setdefault(k + m, {})
                            after[k + m][own] = after[k + m].get(own, 0) + number
                expand(i + 1, used + [j], after, sign * (-1) ** sum(1 for other in used if other > j))
    expand(0, [], {0: {frozenset(): 1}}, 1)
    found = {k: {own: number for own, number in one.items() if number} for k, one in total.items()}
    degrees = [k for k, one in found.items() if one]
    return found[max(degrees)] if degrees else None


def are_apart(polynomial, own):
    """True if a polynomial is a product of one in some sizes and one in the others."""
    rows = {}
    for sizes, number in polynomial.items():
        rows.setdefault(sizes & own, {})[sizes - own] = number
    first = next(iter(rows.values()))
    for row in rows.values():
        if set(row) != set(first):
            return False
        key = next(iter(first))
        if any(row[other] * first[key] != first[other] * row[key] for other in row):
            return False
    return True


def slow_groups(polynomial):
    """The finest sets of sizes such that a polynomial is a product of polynomials in one of them each."""
    left = sorted({size for sizes in polynomial for size in sizes})
    found = []
    while left:
        for many in range(len(left)):
            own = next((frozenset((left[0],) + more) for more in combinations(left[1:], many)
                        if are_apart(polynomial, frozenset((left[0],) + more))), None)
            if own is not None:
                break
        found.append(sorted(own))
        left = [size for size in left if size not in own]
    return sorted(found)


def slow_value(polynomial, sizes):
    total = Fraction(0)
    for own, number in polynomial.items():
        part = Fraction(number)
        for size in own:
            part *= Fraction(*sizes[size])
        total += part
    return total


def dict_of(told):
    return {frozenset(sizes): number for sizes, number in told}


def pair(number):
    return (number.numerator, number.denominator)
