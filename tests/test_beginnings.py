import random
import unittest

from tests.helpers import fresh, made_up, mutated, slow_determinant
from tests.slow_grids import (
    added, chosen_degree, made_grid, mixed, powers, slow_beginnings, slow_number_determinant, slow_regular, slow_tight,
    small_grids, trimmed)
from unsaidsizes.base.inverses import are_inverse
from unsaidsizes.base.packing import packed
from unsaidsizes.base.tables import multiple_of, product
from unsaidsizes.begin.relax import beginnings, beginnings_paper, check_beginnings
from unsaidsizes.marks.grids import changed, grid_of
from unsaidsizes.marks.marks import plain_count

GRID = [("exact", [[0, 1], [0, 1]]), ("exact", [[1, 1], [0, 1]])]
FILLERS = {0: [[[]], [], 0], 1: [[[]], [], 0], 2: [0], 3: [0], 4: [0], 5: [0]}


def slow_changed(grid, changes):
    rows = [row for kind, row in grid if kind == "exact"]
    told = []
    for own in changes:
        total = [[] for _ in grid]
        for one, row in zip(own, rows):
            for k, c in enumerate(one):
                total = [added(before, poly, c, k) for before, poly in zip(total, row)]
        told.append(("exact", total))
    return [told.pop(0) if kind == "exact" else (kind, row) for kind, row in grid]


def slow_is_inverse(one, two):
    many = len(one)
    table = [[[] for _ in range(many)] for _ in range(many)]
    for i in range(many):
        for j in range(many):
            for k in range(many):
                for m, c in enumerate(one[i][k]):
                    table[i][j] = added(table[i][j], two[k][j], c, m)
    corner = table[0][0] if many else [1]
    if len(corner) != 1:
        return False
    return all(table[i][j] == (corner if i == j else []) for i in range(many) for j in range(many))


def slow_check(grid, number, paper):
    """Point 508, word by word."""
    changes, inverse, p, q, columns, places = paper
    many = len(grid)
    exact = [i for i, (kind, _) in enumerate(grid) if kind == "exact"]
    sized = [i for i, (kind, _) in enumerate(grid) if kind == "sized"]
    for table in (changes, inverse):
        if len(table) != len(exact) or any(len(row) != len(exact) for row in table):
            return False
        if any(one and one[-1] == 0 for row in table for one in row):
            return False
    if not slow_is_inverse(changes, inverse):
        return False
    now = slow_changed(grid, changes)
    if len(p) != many or len(q) != many or any(one < 0 for one in p):
        return False
    if any(power is not None and q[j] - p[i] < power for i, row in enumerate(powers(now)) for j, power in enumerate(row)):
        return False
    tight = slow_tight(now, p, q)
    if columns != sorted(set(columns)) or len(columns) != len(exact) or not all(0 <= j < many for j in columns):
        return False
    if slow_number_determinant([[tight[i][j] for j in columns] for i in exact]) == 0:
        return False
    if len(places) != len(sized) or len(set(places)) < len(places) or set(places) & set(columns):
        return False
    return all(j in tight[i] for i, j in zip(sized, places)) and sum(q) - sum(p) == number


class TestInverses(unittest.TestCase):
    def test_packed(self):
        for one, step, told in (([], 5, 0), ([7], 5, 7), ([1, -2, 3], 10, 1 - 2 * 2 ** 10 + 3 * 2 ** 20), ([0, 0, 0, 1], 3, 2 ** 9)):
            self.assertEqual(packed(one, step), told)
        chance = random.Random(1)
        for length in range(20):
            one = [chance.randint(-99, 99) for _ in range(length)]
            self.assertEqual(packed(one, 12), sum(number * 2 ** (12 * k) for k, number in enumerate(one)))

    def test_tables(self):
        prime = 2 ** 61 - 1
        for one, two, told in (
                ([], [], True), ([[[1]]], [[[1]]], True), ([[[2]]], [[[-3]]], True), ([[[]]], [[[1]]], False), ([[[0, 1]]], [[[1]]], False),
                ([[[1], [0, 0, 5]], [[], [1]]], [[[1], [0, 0, -5]], [[], [1]]], True),
                ([[[1], [0, 0, 5]], [[], [1]]], [[[1], [0, 0, 5]], [[], [1]]], False),
                ([[[1], []], [[], [1]]], [[[1], []], [[], [2]]], False), ([[[], [1]], [[1], []]], [[[], [1]], [[1], []]], True),
                ([[[1], []], [[], [1]]], [[[], []], [[], []]], False), ([[[1], [1]], [[1], [1]]], [[[1], [-1]], [[-1], [1]]], False),
                # What is 0, or the same, at 3 or for the first prime alone.
                ([[[prime]]], [[[1]]], True), ([[[1], [prime]], [[], [1]]], [[[1], []], [[], [1]]], False),
                ([[[1], [-3, 1]], [[], [1]]], [[[1], []], [[], [1]]], False), ([[[-2, 1]]], [[[1]]], False),
                ([[[prime], []], [[], [prime]]], [[[1], []], [[], [2]]], False), ([[[-3, 1]]], [[[-3, 1]]], False)):
            self.assertIs(fresh(self, are_inverse, one, two), told, (one, two))

    def test_polynomials_that_are_0_at_powers_of_2(self):
        for k in range(90):
            # (d - 3) (d - 2^k), and this times 2^61 - 1.
            for number in (1, 2 ** 61 - 1):
                one = [number * 3 * 2 ** k, -number * (3 + 2 ** k), number]
                self.assertIs(are_inverse([[[1], one], [[], [1]]], [[[1], []], [[], [1]]]), False)
                self.assertIs(are_inverse([[[1], [-c for c in one]], [[], [1]]], [[[1], one], [[], [1]]]), True)
                self.assertIs(are_inverse([[[c + 5 * (at == 0) for at, c in enumerate(one)]]], [[[1]]]), False)

    def test_made_up(self):
        chance = random.Random(505)
        found = 0
        for _ in range(400):
            many = chance.randint(1, 3)
            one = [[[chance.choice([1, 2, -1])] if i == j else [] for j in range(many)] for i in range(many)]
            two = [[[] for _ in range(many)] for _ in range(many)]
            for i in range(many):
                two[i][i] = [2 // one[i][i][0]]
            for _ in range(chance.randint(0, 4) if many > 1 else 0):
                i, k = chance.sample(range(many), 2)
                number, up = chance.choice([-2, 1, 10 ** 20]), chance.randint(0, 4)
                one[i] = [added(a, b, number, up) for a, b in zip(one[i], one[k])]
                for row in two:
                    row[k] = added(row[k], row[i], -number, up)
            if chance.random() < 0.4:
                row = chance.choice(chance.choice([one, two]))
                at = chance.randrange(many)
                row[at] = added(row[at], [1], chance.choice([1, -1, 10 ** 25]), chance.randint(0, 3))
            told = slow_is_inverse(one, two)
            self.assertIs(are_inverse(one, two), told)
            self.assertIs(multiple_of(product(one, two)) is not None, told)
            found += told
        self.assertGreater(found, 150)


class TestBeginnings(unittest.TestCase):
    def test_told(self):
        self.assertEqual(fresh(self, beginnings, GRID), 1)
        self.assertEqual(plain_count(GRID), 2)
        for grid, told in (([], 0), ([("exact", [[]])], None), ([("sized", [[]])], None), ([("sized", [[0, 2]])], 2),
                           ([("exact", [[5, 0, 0, 1]])], 3), ([("exact", [[5]])], 0)):
            self.assertEqual(fresh(self, beginnings, grid), told)
        # The numbers cancel three times, until nothing with d is left.
        grid = [("exact", [[0, 0, 0, 1], [0, 0, 0, 1]]), ("exact", [[1, 0, 0, 1], [0, 0, 0, 1]])]
        self.assertEqual((plain_count(grid), beginnings(grid)), (6, 3))
        grid = [("exact", [[1, 2, 3, 4], [1, 2, 3, 4]]), ("exact", [[1, 2, 3, 4], [2, 2, 3, 4]])]
        self.assertEqual((plain_count(grid), beginnings(grid)), (6, 3))
        grid = [("exact", [[1, 1], [2, 2]]), ("exact", [[2, 2], [4, 4]])]
        self.assertEqual((plain_count(grid), beginnings(grid)), (2, None))
        # With a size they do not cancel.
        self.assertEqual(beginnings([GRID[0], ("sized", [[0, 1], [1]])]), 2)

    def test_all_sets_of_columns(self):
        less = fewer = 0
        for grid in small_grids(400):
            told = slow_beginnings(grid)
            self.assertEqual(beginnings(grid), told)
            if told is not None:
                self.assertLessEqual(told, plain_count(grid))
                less += told < plain_count(grid)
                fewer += told < plain_count(grid) - 1
        self.assertGreater(less, 30)
        self.assertGreater(fewer, 10)

    def test_plain_without_exact_rows(self):
        chance = random.Random(504)
        for _ in range(60):
            grid = made_grid(chance, chance.randint(1, 16), 0, chance.choice([0.2, 0.6]))
            self.assertEqual(beginnings(grid), plain_count(grid))

    def test_orders_one_greater(self):
        chance = random.Random(507)
        for grid in small_grids(150):
            told = beginnings(grid)
            if not grid or told is None:
                continue
            at = chance.randrange(len(grid))

            def up(kind, one):
                return ([0] + one if one else []) if kind == "exact" else [k + 1 for k in one]
            column = [(kind, [up(kind, one) if j == at else one for j, one in enumerate(row)]) for kind, row in grid]
            row = [(kind, [up(kind, one) for one in row] if i == at else row) for i, (kind, row) in enumerate(grid)]
            self.assertEqual(beginnings(column), told + 1)
            self.assertEqual(beginnings(row), told + 1)

    def test_great_grids(self):
        chance = random.Random(5071)
        kinds = set()
        for seed in range(24):
            n = chance.choice([8, 12, 16, 16])
            grid = made_grid(chance, n, chance.choice([0.6, 1]), chance.choice([0.2, 0.5]), chance.choice([0, 1, 2]),
                             chance.choice([2, 50]))
            if seed < 3:
                grid[3] = grid[5] = ("exact", [[number] for number in range(1, n + 1)])
            grid = mixed(chance, grid, chance.choice([0, 20, 100]))
            told = fresh(self, beginnings, grid)
            self.assertEqual(told, chosen_degree(grid))
            paper = beginnings_paper(grid)
            self.assertIs(paper is None, told is None)
            if told is not None:
                self.assertIs(check_beginnings(grid, told, paper), True)
                kinds.add(min(plain_count(grid) - told, 2))
        self.assertLessEqual({0, 2}, kinds)

    def test_great_numbers_of_low_ranks(self):
        # The tables of the numbers at d^3, d^2, d and 1 have low ranks: the last numbers cancel many times.
        chance = random.Random(5072)
        for ranks in ((4, 4, 4, 4), (8, 4, 3, 1), (16, 4, 2, 1), (1, 1, 1, 13), (5, 5, 5, 1), (2, 2, 2, 1), (15, 0, 0, 1)):
            parts = []
            for r in ranks:
                one = [[chance.randint(-250, 250) for _ in range(r)] for _ in range(16)]
                two = [[chance.randint(-250, 250) for _ in range(16)] for _ in range(r)]
                parts.append([[sum(a * two[k][j] for k, a in enumerate(row)) for j in range(16)] for row in one])
            grid = [("exact", [trimmed(part[i][j] for part in parts) for j in range(16)]) for i in range(16)]
            self.assertEqual(beginnings(grid), chosen_degree(grid))
            paper = beginnings_paper(grid)
            if paper is None:
                self.assertLess(sum(ranks), 16)
            else:
                self.assertIs(check_beginnings(grid, beginnings(grid), paper), True)

    def test_models(self):
        for seed in range(40):
            n = seed // 3 + 2
            model = made_up(seed, n, n, 0.6, 1000000 if seed > 30 else 2, 3, 3 * n)
            grid = grid_of(model)
            self.assertEqual(beginnings(grid), chosen_degree(grid))


class TestPapers(unittest.TestCase):
    def test_told(self):
        for grid in small_grids(250):
            told = beginnings(grid)
            paper = fresh(self, beginnings_paper, grid)
            self.assertIs(paper is None, told is None)
            if paper is not None:
                self.assertIs(fresh(self, check_beginnings, grid, told, paper), True)
                self.assertIs(slow_check(grid, told, paper), True)
                for number in (told - 1, told + 1, -told - 1, 10 ** 30):
                    self.assertIs(check_beginnings(grid, number, paper), False)
                # The tight table of the changed grid is regular.
                now = changed(grid, paper[0])
                everything = list(range(len(grid)))
                self.assertIs(slow_regular(now, slow_tight(now, paper[2], paper[3]), everything, everything), True)

    def test_changed_papers(self):
        chance = random.Random(508)
        refused = accepted = 0
        for grid in small_grids(250):
            told, paper = beginnings(grid), beginnings_paper(grid)
            if paper is None:
                continue
            for _ in range(12):
                other = mutated(chance, paper, FILLERS)
                number = told if chance.random() < 0.7 else sum(other[3]) - sum(other[2])
                right = slow_check(grid, number, other)
                self.assertIs(fresh(self, check_beginnings, grid, number, other), right, (grid, number, other))
                self.assertTrue(not right or number == told)
                refused += not right
                accepted += right
        self.assertGreater(refused, 700)
        self.assertGreater(accepted, 10)

    def test_each_condition_alone(self):
        grid = GRID + [("sized", [[0], [], [1, 2], []]), ("sized", [[], [], [0], [3]])]
        grid = [(kind, row + [[]] * (4 - len(row))) for kind, row in grid]
        good = ([[[1], []], [[-1], [1]]], [[[1], []], [[1], [1]]], [0, 1, 0, 0], [1, 1, 2, 3], [0, 1], [2, 3])
        self.assertEqual(beginnings(grid), 6)
        self.assertIs(fresh(self, check_beginnings, grid, 6, good), True)
        one, two = good[:2]
        for at, others in (
                (0, ([], [[]], one[:1], one + [[[], []]], [[[1], []], [[-1]]], [[[1], []], [[-1], [1], []]], [[[1], []], [[1], [1]]],
                     [[[2], []], [[-1], [1]]], [[[1], []], [[-1, 0], [1]]], [[[1], [0]], [[-1], [1]]], [[[1], []], [[-1], []]],
                     [[[1], []], [[-1, 1], [1]]], [[[], []], [[], []]], two)),
                (1, ([], two[:1], two + [[[], []]], [[[1], []], [[1]]], [[[1], []], [[-1], [1]]], [[[1, 0], []], [[1], [1]]],
                     [[[1], [0]], [[1], [1]]], [[[], []], [[], []]], [[[2], []], [[1], [2]]], [[[0, 1], []], [[0, 1], [0, 1]]], one)),
                (2, ([], [0, 1, 0], [0, 1, 0, 0, 0], [0, 0, 0, 0], [0, 1, 0, -1], [-1, 1, 0, 0], [0, 1, 0, 1], [0, 2, 0, 0],
                     [0, 10 ** 30, 0, 0])),
                (3, ([], [1, 1, 2], [1, 1, 2, 3, 0], [0, 1, 2, 3], [1, 0, 2, 3], [1, 1, 1, 3], [1, 1, 2, 2], [2, 1, 2, 3],
                     [1, 1, 3, 3], [10 ** 30] * 4, [-1] * 4)),
                (4, ([], [0], [1, 0], [0, 0], [0, 2], [0, 1, 2], [0, 4], [-1, 0], [0, 10 ** 30], [-4, 1], [1, 2])),
                (5, ([], [2], [3, 2], [2, 2], [3, 3], [2, 3, 3], [0, 3], [2, 0], [2, 4], [-2, 3], [2, -1], [2, 10 ** 30]))):
            for other in others:
                paper = good[:at] + (other,) + good[at + 1:]
                own = sum(paper[3]) - sum(paper[2])
                for number in (6, own):
                    self.assertIs(slow_check(grid, number, paper), False, paper)
                    self.assertIs(fresh(self, check_beginnings, grid, number, paper), False, paper)
        # Marks that are all greater, and changes and inverse times integers, do as well.
        self.assertIs(check_beginnings(grid, 6, good[:2] + ([1, 2, 1, 1], [2, 2, 3, 4]) + good[4:]), True)
        more = [[[own * 10 ** 50 for own in one] for one in row] for row in good[0]]
        self.assertIs(check_beginnings(grid, 6, (more, [[[-7 * own for own in one] for one in row] for row in good[1]]) + good[2:]), True)
        # Without changes the marks are right, but the determinant of the tight numbers is 0.
        unit = [[[1], []], [[], [1]]]
        self.assertIs(check_beginnings(grid, 7, (unit, unit, [0, 0, 0, 0], [1, 1, 2, 3], [0, 1], [2, 3])), False)

    def test_grids_without_rows_of_a_kind(self):
        self.assertIs(check_beginnings([], 0, ([], [], [], [], [], [])), True)
        self.assertIs(check_beginnings([], 1, ([], [], [], [], [], [])), False)
        self.assertIs(check_beginnings([], 0, ([[]], [], [], [], [], [])), False)
        self.assertIs(check_beginnings([], 0, ([], [], [], [], [], [0])), False)
        self.assertIs(check_beginnings([], 0, ([], [], [], [], [0], [])), False)
        sized = [("sized", [[0, 2]])]
        self.assertIs(check_beginnings(sized, 2, ([], [], [0], [2], [], [0])), True)
        self.assertIs(check_beginnings(sized, 2, ([], [], [5], [7], [], [0])), True)
        self.assertIs(check_beginnings(sized, 3, ([], [], [0], [3], [], [0])), False)
        exact = [("exact", [[4, 3]])]
        self.assertIs(check_beginnings(exact, 1, ([[[5]]], [[[2]]], [0], [1], [0], [])), True)
        self.assertIs(check_beginnings(exact, 1, ([[[5]]], [[[]]], [0], [1], [0], [])), False)
        self.assertIs(check_beginnings(exact, 2, ([[[0, 1]]], [[[1]]], [0], [2], [0], [])), False)
        self.assertIs(check_beginnings([("exact", [[]])], 0, ([[[1]]], [[[1]]], [0], [0], [0], [])), False)

    def test_high_degrees(self):
        grid = [("exact", [[1, 1], []]), ("exact", [[], [2, 0, 1]])]
        for up, number in ((900, 1), (3000, 10 ** 40), (40, -(10 ** 900))):
            high = [0] * up + [number]
            paper = ([[[1], []], [high, [1]]], [[[1], []], [[0] * up + [-number], [1]]], [up - 1, 0], [up + 1, 2], [0, 1], [])
            # The mark of the first row is raised until that of the column goes with the high degree.
            paper = paper[:2] + ([up, 0], [up + 1, 2]) + paper[4:]
            self.assertIs(check_beginnings(grid, 3, paper), True)
            self.assertIs(check_beginnings(grid, 3, paper[:2] + ([up, 0], [up, 2]) + paper[4:]), False)
            self.assertIs(check_beginnings(grid, 3, paper[:1] + (paper[0],) + paper[2:]), False)

    def test_very_long_polynomials(self):
        long = [1] * 100000
        for grid in ([("exact", [[1]])], GRID):
            n = len(grid)
            table = [[list(long) for _ in range(n)] for _ in range(n)]
            unit = [[[1] if i == j else [] for j in range(n)] for i in range(n)]
            for one, two in ((table, table), (table, unit), (unit, table)):
                self.assertIs(check_beginnings(grid, 1, (one, two, [0] * n, [1] * n, list(range(n)), [])), False)
        # Right ones, but the grid that comes of them has no such marks.
        one = [[[1], long], [[], [1]]]
        two = [[[1], [-1] * 100000], [[], [1]]]
        self.assertIs(check_beginnings(GRID, 1, (one, two, [0, 1], [1, 1], [0, 1], [])), False)
        self.assertIs(check_beginnings(GRID, 1, (one, one, [0, 1], [1, 1], [0, 1], [])), False)

    def test_determinants_of_papers(self):
        # The degree of the determinant stays with the changes.
        for grid in small_grids(80, most=3):
            paper = beginnings_paper(grid)
            if paper is not None and all(kind == "exact" for kind, _ in grid):
                now = changed(grid, paper[0])
                table = [[{k: c for k, c in enumerate(one) if c} for one in row] for _, row in now]
                self.assertEqual(max(slow_determinant(table)), beginnings(grid))


if __name__ == "__main__":
    unittest.main()
