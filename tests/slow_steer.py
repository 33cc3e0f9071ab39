"""Slow reckoning with factors, steering and watching, by the definitions alone."""

import random
from fractions import Fraction
from itertools import combinations
from math import gcd as integer_gcd

from tests.helpers import PRIME, made_up, slow_determinant, with_sums
from tests.slow_grids import dicts, exact_of, givings, mixed, sized_of, trimmed

FACTORS = [[1, 1], [-1, 1], [0, 1], [2, 1], [1, 0, 1], [1, 2], [3, 1]]


def times(one, two):
    found = [0] * (len(one) + len(two))
    for k, c in enumerate(one):
        for m, e in enumerate(two):
            found[k + m] += c * e
    return trimmed(found)


def power(one, many):
    found = [1]
    for _ in range(many):
        found = times(found, one)
    return found


def lowest(one):
    """The lowest form of a polynomial."""
    shared = 0
    for number in one:
        shared = integer_gcd(shared, number)
    if one and one[-1] < 0:
        shared = -shared
    return [number // shared for number in one]


def slow_gcd(one, two):
    """The greatest common factor, by rests."""
    one, two = lowest(one), lowest(two)
    while two:
        rest = list(one)
        while len(rest) >= len(two):
            low = len(rest) - len(two)
            rest = [two[-1] * c for c in rest[:low]] + [two[-1] * c - rest[-1] * e for c, e in zip(rest[low:], two)]
            rest = trimmed(rest)
        one, two = two, lowest(rest)
    return one


def polynomial(told):
    """The list of a dict."""
    return trimmed(told.get(k, 0) for k in range(max(told, default=-1) + 1))


def arrangements(grid):
    """All arrangements, with the minor and the order."""
    many = range(len(grid))
    sized = [{j: grid[i][1][j][0] for j in many if grid[i][1][j]} for i in sized_of(grid)]
    for columns in combinations(many, len(exact_of(grid))):
        minor = polynomial(slow_determinant([dicts(grid[i][1], columns) for i in exact_of(grid)]))
        if minor:
            for places in givings(sized, [j for j in many if j not in columns]):
                yield list(columns), list(places), minor, sum(row[j] for row, j in zip(sized, places))


def slow_factor(grid):
    """The exact factor, None if the grid is not full."""
    found = []
    for _, _, minor, order in arrangements(grid):
        found = slow_gcd(found, [0] * order + minor)
    return found or None


def common_grids(many, seed=901, most=4):
    """Small grids in whose rows and columns factors stand often; their degrees add up to at most 12."""
    chance = random.Random(seed)
    found = [[], [("exact", [[]])], [("sized", [[]])], [("exact", [[0, 0, -7]])], [("sized", [[1, 3]])]]
    while len(found) < many:
        n = chance.randint(1, most)
        columns = [chance.choice([[1], [1]] + FACTORS[:4]) for _ in range(n)]
        grid = []
        for _ in range(n):
            if chance.random() < 0.4:
                grid.append(("sized", [sorted(chance.sample(range(4), chance.choice([1, 1, 2]))) if chance.random() < 0.6 else []
                                       for _ in range(n)]))
                continue
            own = chance.choice([[1], [1]] + FACTORS[:4])
            row = []
            for j in range(n):
                one = times([chance.choice([1, -1, 2, 3])], times(own, columns[j]))
                while len(one) < 3 and chance.random() < 0.4:
                    one = times(one, chance.choice(FACTORS))
                row.append(one if chance.random() < 0.7 else [])
            grid.append(("exact", row))
        grid = mixed(chance, grid, chance.choice([0, 2, 6]))
        if sum(max([0] + [len(one) - 1 for one in row]) for kind, row in grid if kind == "exact") <= 12:
            if all(len(one) <= 4 for kind, row in grid if kind == "exact" for one in row):
                found.append(grid)
    return found


def gcd_modulo(one, two):
    """The greatest common factor of two lists of residues, its last number 1."""
    while two:
        inverse = pow(two[-1], -1, PRIME)
        rest = list(one)
        while len(rest) >= len(two):
            factor, low = rest[-1] * inverse % PRIME, len(rest) - len(two)
            rest = trimmed(rest[:low] + [(c - factor * e) % PRIME for c, e in zip(rest[low:], two)])
        one, two = two, rest
    return one


def said_by_chance(model, seed):
    """For each law a dict of polynomials (dicts), with sizes chosen by chance modulo the prime."""
    chance = random.Random(seed)
    rows = []
    for told in model[1]:
        row = [{} for _ in model[0]]
        if told[0] == "exact":
            for number, k, j in told[1]:
                row[j][k] = number
        else:
            row[told[2]][told[1]] = 1
            for _, k, j in told[3]:
                row[j][k] = chance.randrange(1, PRIME)
        rows.append(row)
    return rows


def common_degree(table):
    """The degree of what all greatest determinants of a table with as many rows as that have in common modulo the prime."""
    found = []
    for columns in combinations(range(len(table[0])) if table else range(0), len(table)):
        told = slow_determinant([[row[j] for j in columns] for row in table])
        found = gcd_modulo([c % PRIME for c in polynomial(told)] and trimmed([c % PRIME for c in polynomial(told)]), found)
    return len(found) - 1 if found else None


def slow_unsteered(model, seed=1):
    """Point 907, for a full model."""
    if not model[1]:
        return 0
    return common_degree(said_by_chance(model, seed))


def slow_unwatched(model, seen, seed=1):
    """Point 910: None if the rank of the rest is too small."""
    unseen = [j for j in range(len(model[0])) if j not in seen]
    if not unseen:
        return 0
    rows = said_by_chance(model, seed)
    if len(rows) < len(unseen):
        return None
    return common_degree([[row[j] for row in rows] for j in unseen])


def steered_models(many, seed=907, most=4, laws=None):
    """Small models of all kinds, in many of which exact laws have factors in common."""
    chance = random.Random(seed)
    found = [([], []), (["a"], []), ([], [("exact", [], "f")]), (["a", "b"], [("exact", [], "")])]
    while len(found) < many:
        n = chance.randint(1, most)
        m = chance.randint(1, laws or n)
        model = made_up(chance.randrange(10 ** 6), n, m, chance.choice([0.3, 0.6, 0.8, 1]), chance.choice([1, 2]), 3, 6,
                        chance.choice([0, 1, 2]))
        if chance.random() < 0.4:
            model = with_sums(chance.randrange(10 ** 6), model, chance.randint(1, 2))
        if chance.random() < 0.5:
            model = with_factors(chance, model)
        if sum(max([0] + [k for _, k, _ in told[1]]) for told in model[1] if told[0] == "exact") <= 12:
            found.append(model)
    return found


def with_factors(chance, model):
    """The model with some exact laws multiplied by d + 1 or such."""
    laws = []
    for told in model[1]:
        if told[0] == "exact" and chance.random() < 0.6:
            one = chance.choice(FACTORS[:4])
            total = {}
            for number, k, j in told[1]:
                for m, c in enumerate(one):
                    total[k + m, j] = total.get((k + m, j), 0) + c * number
            if all(k <= 3 for k, _ in total):
                terms = [(number, k, j) for (k, j), number in sorted(total.items()) if number]
                told = ("exact", terms, told[2])
        laws.append(told)
    return (model[0], laws)


# The checks, word by word.

def slow_minor(grid, columns):
    return polynomial(slow_determinant([dicts(grid[i][1], columns) for i in exact_of(grid)]))


def slow_is_arrangement(grid, columns, places):
    many, exact, sized = len(grid), exact_of(grid), sized_of(grid)
    if len(columns) != len(exact) or columns != sorted(set(columns)) or len(places) != len(sized):
        return False
    if not all(0 <= j < many for j in columns + places) or len(set(columns + places)) < many:
        return False
    return all(grid[i][1][j] for i, j in zip(sized, places)) and slow_minor(grid, columns) != []


def slow_often(one, part):
    """How many times a factor divides a polynomial, and the rest."""
    many = 0
    while True:
        rest = [Fraction(number) for number in one]
        found = [0] * max(0, len(one) - len(part) + 1)
        while len(rest) >= len(part):
            factor, low = rest[-1] / part[-1], len(rest) - len(part)
            found[low] = factor
            rest = trimmed(rest[:low] + [c - factor * e for c, e in zip(rest[low:], part)])
        if rest:
            return many, one
        many, one = many + 1, [int(number) for number in found]


def slow_are_weights(grid, part, columns, places, weights):
    """Point 904: the exponent, or None if they are no weights."""
    many = len(grid)
    if not slow_is_arrangement(grid, columns, places) or len(weights) != many:
        return None
    if len(part) < 2 or part[-1] == 0 or lowest(part) != part or (part[0] == 0 and part != [0, 1]):
        return None
    m, rest = slow_often(slow_minor(grid, columns), part)
    if slow_gcd(rest, part) != [1]:
        return None
    for b in columns:
        for a in range(many):
            if a not in columns:
                other = slow_minor(grid, [a if j == b else j for j in columns])
                if other and slow_often(other, part)[0] < m + weights[b] - weights[a]:
                    return None
    order = 0
    for i, b in zip(sized_of(grid), places):
        row = grid[i][1]
        order += row[b][0]
        for a in range(many):
            if row[a] and weights[b] - weights[a] > (row[a][0] - row[b][0] if part == [0, 1] else 0):
                return None
    return m + order if part == [0, 1] else m


def slow_check_factor(grid, factor, paper):
    """Point 905."""
    columns, places, told = paper
    if not slow_is_arrangement(grid, columns, places):
        return False
    product, order = [1], sum(grid[i][1][j][0] for i, j in zip(sized_of(grid), places))
    rest = slow_minor(grid, columns)
    if order > 0:
        rest = [0] + rest
    for k, (part, own, others, weights) in enumerate(told):
        exponent = slow_are_weights(grid, part, own, others, weights)
        if exponent is None or any(slow_gcd(part, other) != [1] for other, _, _, _ in told[:k]):
            return False
        product = times(product, power(part, exponent))
        while slow_gcd(rest, part) != [1]:
            rest = slow_often(rest, slow_gcd(rest, part))[1]
    return len(rest) == 1 and product == factor


def slow_ways(told, members, starts, arcs):
    """The lists of ways of point 407."""
    before = []
    for a, other in told:
        if a in before or a not in members or not (a in starts if other == -1 else other in before and a in arcs[other]):
            return False
        before.append(a)
    return sorted(before) == sorted(members)


def turned(arcs):
    return [[a for a, ends in enumerate(arcs) if b in ends] for b in range(len(arcs))]


def made_tied(seed, columns, degrees, number):
    """A model whose first quantities are loose: the last of them stands wherever the others do; all others are tied."""
    chance = random.Random(seed)
    many = columns - 1
    further = len(degrees) - many
    laws = []
    for degree in degrees:
        rows = [[chance.randint(-number // columns, number // columns) or 1 for _ in range(degree + 1)] for _ in range(many)]
        rows.append([sum(own) or 1 for own in zip(*rows)])
        terms = [(c, k, j) for j, row in enumerate(rows) for k, c in enumerate(row) if c]
        terms += [(chance.choice([-1, 1]) * chance.randint(1, number), k, columns + j)
                  for j in range(further) for k in range(degree + 1)]
        laws.append(("exact", terms, ""))
    return ([f"q{j}" for j in range(columns + further)], laws)
