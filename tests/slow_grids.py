"""Made-up grids, and slow reckoning with grids by the definitions alone."""

import random
from itertools import combinations, permutations, product

from tests.helpers import PRIME, slow_determinant


def trimmed(numbers):
    numbers = list(numbers)
    while numbers and numbers[-1] == 0:
        numbers.pop()
    return numbers


def made_grid(chance, n, exact=0.6, dense=0.6, degree=3, number=3):
    grid = []
    for _ in range(n):
        row = []
        if chance.random() < exact:
            for _ in range(n):
                there = chance.random() < dense
                numbers = [chance.randint(-number, number) for _ in range(chance.randint(1, degree + 1))]
                row.append(trimmed(numbers) if there else [])
            grid.append(("exact", row))
        else:
            for _ in range(n):
                there = chance.random() < dense
                many = chance.choice([1, 1, min(2, degree + 1)])
                row.append(sorted(chance.sample(range(degree + 1), many)) if there else [])
            grid.append(("sized", row))
    return grid


def added(one, two, number, up):
    """A polynomial plus another one times number * d^up."""
    found = [0] * max(len(one), len(two) + up)
    for k, own in enumerate(one):
        found[k] += own
    for k, own in enumerate(two):
        found[k + up] += number * own
    return trimmed(found)


def mixed(chance, grid, many, most=1000000, degree=3):
    """The grid after adding multiples of exact rows to others, as long as numbers and degrees stay small."""
    grid = list(grid)
    exact = [i for i, (kind, _) in enumerate(grid) if kind == "exact"]
    for _ in range(many if len(exact) > 1 else 0):
        i, k = chance.sample(exact, 2)
        number, up = chance.choice([-3, -2, -1, 1, 2, 5]), chance.randint(0, degree)
        row = [added(one, two, number, up) for one, two in zip(grid[i][1], grid[k][1])]
        if all(len(one) <= degree + 1 and all(abs(c) <= most for c in one) for one in row):
            grid[i] = ("exact", row)
    return grid


def small_grids(many, seed=501, most=4):
    """Small grids of all kinds; in many of them last numbers cancel."""
    chance = random.Random(seed)
    found = [[], [("exact", [[]])], [("sized", [[]])], [("exact", [[0, 0, 7]])], [("sized", [[1, 3]])]]
    while len(found) < many:
        n = chance.randint(1, most)
        degree = chance.choice([0, 1, 1, 3])
        grid = made_grid(chance, n, chance.choice([0.3, 0.7, 1, 1]), chance.choice([0.4, 0.7, 1]),
                         chance.choice([0, degree]), chance.choice([1, 3]))
        found.append(mixed(chance, grid, chance.choice([0, 2, 8]), degree=max(degree, 1)))
    return found


def powers(grid):
    return [[None if not one else (len(one) - 1 if kind == "exact" else max(one)) for one in row] for kind, row in grid]


def exact_of(grid):
    return [i for i, (kind, _) in enumerate(grid) if kind == "exact"]


def sized_of(grid):
    return [i for i, (kind, _) in enumerate(grid) if kind == "sized"]


def dicts(row, columns):
    return [{k: c for k, c in enumerate(row[j]) if c} for j in columns]


def givings(rows, columns):
    """All ways to give columns to some rows, one to each; each row is a dict from columns to what stands there."""
    for order in permutations(columns):
        if all(j in row for row, j in zip(rows, order)):
            yield order


def slow_beginnings(grid):
    """The greatest degree over all sets of columns for the exact rows, None if there is no determinant."""
    many = range(len(grid))
    table = powers(grid)
    sized = [{j: table[i][j] for j in many if table[i][j] is not None} for i in sized_of(grid)]
    best = None
    for columns in combinations(many, len(exact_of(grid))):
        minor = slow_determinant([dicts(grid[i][1], columns) for i in exact_of(grid)])
        if not minor:
            continue
        others = [j for j in many if j not in columns]
        for order in givings(sized, others):
            total = max(minor) + sum(row[j] for row, j in zip(sized, order))
            best = total if best is None else max(best, total)
    return best


def determinant_modulo(rows):
    rows = [list(row) for row in rows]
    total = 1
    for column in range(len(rows)):
        at = next((k for k in range(column, len(rows)) if rows[k][column] % PRIME), None)
        if at is None:
            return 0
        if at != column:
            rows[column], rows[at] = rows[at], rows[column]
            total = -total
        total = total * rows[column][column] % PRIME
        inverse = pow(rows[column][column], -1, PRIME)
        for k in range(column + 1, len(rows)):
            factor = rows[k][column] * inverse % PRIME
            if factor:
                rows[k] = [(own - factor * other) % PRIME for own, other in zip(rows[k], rows[column])]
    return total % PRIME


def chosen_degree(grid, seed=1):
    """The degree of the determinant for sizes chosen by chance, as good as surely that for nearly all."""
    chance = random.Random(seed)
    rows = []
    for kind, row in grid:
        if kind == "exact":
            rows.append([{k: c for k, c in enumerate(one)} for one in row])
        else:
            rows.append([{k: chance.randrange(PRIME) for k in one} for one in row])
    most = sum(max([0] + [max(one) for one in row if one]) for row in rows)
    values = []
    for at in range(most + 1):
        table = [[sum(c * at ** k for k, c in one.items()) % PRIME for one in row] for row in rows]
        values.append(determinant_modulo(table))
    # The last difference that is not 0 tells the degree.
    degree = None
    for k in range(most + 1):
        if values[0] % PRIME:
            degree = k
        values = [two - one for one, two in zip(values, values[1:])]
    return degree


def slow_least_marks(grid):
    """All marks with integers of the rows up to a bound that is never too small, the least of them."""
    many, table = len(grid), powers(grid)
    rows = [{j: one for j, one in enumerate(row) if one is not None} for row in table]
    if not any(True for _ in givings(rows, range(many))):
        return None
    greatest = max([0] + [one for row in rows for one in row.values()])
    found = []
    for p in product(range(many * greatest + 1), repeat=many):
        q = [max(p[i] + row[j] for i, row in enumerate(rows) if j in row) for j in range(many)]
        found.append((sum(q) - sum(p), list(p), q))
    least = min(total for total, _, _ in found)
    best = [(p, q) for total, p, q in found if total == least]
    p = [min(one[i] for one, _ in best) for i in range(many)]
    q = [min(two[i] for _, two in best) for i in range(many)]
    assert (p, q) in best
    return (p, q)


def slow_tight(grid, p, q):
    """The tight numbers of each exact row, and the tight columns of each sized row, by the indexes of the rows."""
    table = powers(grid)
    found = {}
    for i, (kind, row) in enumerate(grid):
        tight = [j for j in range(len(grid)) if table[i][j] is not None and table[i][j] == q[j] - p[i]]
        found[i] = [row[j][-1] if j in tight else 0 for j in range(len(grid))] if kind == "exact" else tight
    return found


def slow_number_determinant(rows):
    told = slow_determinant([[{0: c} if c else {} for c in row] for row in rows])
    return told.get(0, 0)


def slow_regular(grid, tight, rows, columns):
    """Point 503 for the tight table of some rows and as many columns."""
    exact = [i for i in rows if grid[i][0] == "exact"]
    sized = [i for i in rows if grid[i][0] == "sized"]
    for own in combinations(columns, len(exact)):
        if slow_number_determinant([[tight[i][j] for j in own] for i in exact]):
            others = [j for j in columns if j not in own]
            if any(True for _ in givings([{j: 1 for j in tight[i]} for i in sized], others)):
                return True
    return False


def slow_number_rank(rows):
    for size in range(min(len(rows), len(rows[0]) if rows else 0), 0, -1):
        for own in combinations(range(len(rows)), size):
            for columns in combinations(range(len(rows[0])), size):
                if slow_number_determinant([[rows[i][j] for j in columns] for i in own]):
                    return size
    return 0


def slow_strength(grid, tight, rows, columns):
    """The rank of the tight numbers of some rows at a set, plus the sized rows that are tight there."""
    exact = [[tight[i][j] for j in columns] for i in rows if grid[i][0] == "exact"]
    sized = [i for i in rows if grid[i][0] == "sized" and set(tight[i]) & set(columns)]
    return slow_number_rank(exact) + len(sized)
