import random
import unittest

from tests.helpers import fails, fresh, subsets
from tests.slow_grids import (
    determinant_modulo, exact_of, givings, made_grid, powers, sized_of, slow_least_marks, slow_regular, slow_strength,
    slow_tight, small_grids)
from unsaidsizes.errors import NotMarks
from unsaidsizes.marks.marks import (
    is_marks, is_regular, least_marks, plain_count, short_set, tight_numbers, tight_places)

GRID = [("exact", [[0, 1], [0, 1]]), ("exact", [[1, 1], [0, 1]])]
SIZED = [("sized", [[0, 2], [1], []]), ("exact", [[4], [], [0, 5]]), ("sized", [[], [0], [1]])]


def slow_is_marks(grid, p, q):
    many = len(grid)
    if len(p) != many or len(q) != many or any(one < 0 for one in p):
        return False
    return all(power is None or q[j] - p[i] >= power
               for i, row in enumerate(powers(grid)) for j, power in enumerate(row))


def some_marks(chance, grid):
    """The least marks, and some greater ones."""
    marks = least_marks(grid)
    if marks is None:
        p = [chance.randint(0, 3) for _ in grid]
    else:
        yield marks
        p = [own + chance.choice([0, 0, 1, 2]) for own in marks[0]]
    table = powers(grid)
    q = [max([p[i] + row[j] for i, row in enumerate(table) if row[j] is not None] + [-2]) for j in range(len(grid))]
    yield p, q
    yield p, [one + chance.choice([0, 0, 1, 5]) for one in q]


class TestIsMarks(unittest.TestCase):
    def test_told(self):
        for p, q, told in (([0, 0], [1, 1], True), ([0, 0], [2, 1], True), ([1, 1], [2, 2], True), ([0, 1], [2, 2], True),
                           ([0, 1], [1, 2], False), ([0, 0], [0, 1], False), ([0, 0], [1, 0], False), ([-1, 0], [1, 1], False),
                           ([0, -1], [1, 1], False), ([0], [1, 1], False), ([0, 0], [1], False), ([0, 0, 0], [1, 1], False),
                           ([0, 0], [1, 1, 1], False), ([], [], False), ([0, 0, 0], [1, 1, 1], False),
                           ([0, 0], [10 ** 30, 10 ** 30], True), ([10 ** 30, 0], [1, 1], False),
                           ([10 ** 30, 0], [10 ** 30 + 1, 10 ** 30 + 1], True), ([0] * 5000, [9] * 5000, False)):
            self.assertIs(fresh(self, is_marks, GRID, p, q), told, (p, q))
        self.assertIs(is_marks([], [], []), True)
        self.assertIs(is_marks([], [0], []), False)
        self.assertIs(is_marks([], [], [0]), False)
        # Without a place there is no bound.
        self.assertIs(is_marks([("exact", [[]])], [5], [-7]), True)
        self.assertIs(is_marks([("exact", [[]])], [-1], [7]), False)
        self.assertIs(is_marks(SIZED, [0, 0, 0], [2, 1, 1]), True)
        self.assertIs(is_marks(SIZED, [0, 0, 0], [1, 1, 1]), False)

    def test_made_up(self):
        chance = random.Random(502)
        for grid in small_grids(100):
            for _ in range(20):
                p = [chance.randint(-1, 3) if chance.random() < 0.2 else chance.randint(0, 2) for _ in grid]
                q = [chance.randint(0, 6) for _ in grid]
                self.assertIs(is_marks(grid, p, q), slow_is_marks(grid, p, q))


class TestLeastMarks(unittest.TestCase):
    def test_told(self):
        self.assertEqual(fresh(self, least_marks, GRID), ([0, 0], [1, 1]))
        self.assertEqual(fresh(self, plain_count, GRID), 2)
        self.assertEqual(least_marks([]), ([], []))
        self.assertEqual(plain_count([]), 0)
        self.assertEqual(least_marks([("exact", [[]])]), None)
        self.assertEqual(plain_count([("sized", [[]])]), None)
        # A pendulum in Cartesian coordinates, roughly: the constraint is differentiated twice.
        grid = [("exact", [[0, 0, 1], [], [1]]), ("exact", [[], [0, 0, 1], [1]]), ("exact", [[1], [1], []])]
        self.assertEqual(least_marks(grid), ([0, 0, 2], [2, 2, 0]))
        self.assertEqual(plain_count(grid), 2)
        # A chain of integrators: marks greater than all degrees.
        many = 6
        chain = [("sized", [[1] if j == i else [0] if j == i + 1 else [] for j in range(many)]) for i in range(many - 1)]
        chain.append(("exact", [[1]] + [[] for _ in range(many - 1)]))
        self.assertEqual(least_marks(chain), ([4, 3, 2, 1, 0, 5], [5, 4, 3, 2, 1, 0]))
        self.assertEqual(plain_count(chain), 0)

    def test_all_pairs(self):
        for grid in small_grids(150, most=3):
            if all(len(row) <= 3 or max([len(one) for one in row]) <= 2 for _, row in grid):
                told = slow_least_marks(grid)
                self.assertEqual(fresh(self, least_marks, grid), told)
                self.assertEqual(fresh(self, plain_count, grid), None if told is None else sum(told[1]) - sum(told[0]))

    def test_without_places_to_give(self):
        chance = random.Random(5021)
        both = set()
        for _ in range(150):
            n = chance.randint(1, 5)
            grid = made_grid(chance, n, 0.5, chance.choice([0.2, 0.4, 0.6]), 12, 10 ** 30)
            table = powers(grid)
            rows = [{j: one for j, one in enumerate(row) if one is not None} for row in table]
            sums = [sum(row[j] for row, j in zip(rows, order)) for order in givings(rows, range(n))]
            marks = least_marks(grid)
            both.add(bool(sums))
            self.assertEqual(marks is not None, bool(sums))
            if sums:
                # The plain count is the greatest sum of powers of such places.
                self.assertEqual(plain_count(grid), max(sums))
                self.assertIs(is_marks(grid, *marks), True)
        self.assertEqual(both, {True, False})

    def test_great_grids(self):
        chance = random.Random(5022)
        for _ in range(20):
            grid = made_grid(chance, 16, 0.5, chance.choice([0.3, 1]), 12, 10 ** 30)
            marks = least_marks(grid)
            if marks is None:
                continue
            p, q = marks
            self.assertIs(is_marks(grid, p, q), True)
            # The least sum: the tight places can be given. The least marks: no row can go down.
            tight = slow_tight(grid, p, q)
            rows = [[chance.randrange(1, 2 ** 500) if j in tight[i] or (kind == "exact" and tight[i][j]) else 0
                     for j in range(16)] for i, (kind, _) in enumerate(grid)]
            self.assertNotEqual(determinant_modulo(rows), 0)
            for i in range(16):
                if p[i] > 0:
                    lower = p[:i] + [p[i] - 1] + p[i + 1:]
                    self.assertIs(any(is_marks(grid, lower, q[:j] + [q[j] - 1] + q[j + 1:]) for j in range(16)), False)


class TestTight(unittest.TestCase):
    def test_told(self):
        self.assertEqual(fresh(self, tight_numbers, GRID, [0, 0], [1, 1]), [[1, 1], [1, 1]])
        self.assertEqual(fresh(self, tight_places, GRID, [0, 0], [1, 1]), [])
        self.assertEqual(fresh(self, tight_numbers, GRID, [0, 0], [2, 1]), [[0, 1], [0, 1]])
        self.assertEqual(fresh(self, tight_numbers, SIZED, [0, 0, 0], [2, 1, 1]), [[0, 0, 5]])
        self.assertEqual(fresh(self, tight_places, SIZED, [0, 0, 0], [2, 1, 1]), [[0, 1], [2]])
        self.assertEqual(fresh(self, tight_places, SIZED, [0, 2, 1], [2, 1, 3]), [[0, 1], [1]])
        self.assertEqual(fresh(self, tight_numbers, SIZED, [0, 2, 1], [2, 1, 3]), [[4, 0, 5]])
        self.assertEqual(tight_numbers([], [], []), [])
        self.assertEqual(tight_places([], [], []), [])

    def test_made_up(self):
        chance = random.Random(503)
        for grid in small_grids(120):
            for p, q in some_marks(chance, grid):
                tight = slow_tight(grid, p, q)
                self.assertEqual(fresh(self, tight_numbers, grid, p, q), [tight[i] for i in exact_of(grid)])
                self.assertEqual(fresh(self, tight_places, grid, p, q), [tight[i] for i in sized_of(grid)])

    def test_not_marks(self):
        for p, q in (([0, 0], [0, 1]), ([0], [1, 1]), ([-1, 0], [1, 1]), ([], []), ([0, 0, 0], [1, 1, 1]), ([10 ** 30, 0], [1, 1])):
            fails(self, NotMarks, 0, tight_numbers, GRID, p, q)
            fails(self, NotMarks, 0, tight_places, GRID, p, q)
            fails(self, NotMarks, 0, short_set, GRID, p, q)
            fails(self, NotMarks, 0, is_regular, GRID, p, q, [0], [0])
            fails(self, NotMarks, 0, is_regular, GRID, p, q, [9, 9], [])


class TestRegular(unittest.TestCase):
    def test_told(self):
        marks = ([0, 0], [1, 1])
        self.assertIs(fresh(self, is_regular, GRID, *marks, [0, 1], [0, 1]), False)
        self.assertIs(fresh(self, is_regular, GRID, *marks, [0], [1]), True)
        self.assertIs(fresh(self, is_regular, GRID, *marks, [], []), True)
        self.assertEqual(fresh(self, short_set, GRID, *marks), [0, 1])
        self.assertIs(is_regular([], [], [], [], []), True)
        self.assertEqual(short_set([], [], []), None)
        for rows, columns in (([0], []), ([], [0]), ([0], [0, 1]), ([0, 1], [1]), ([1, 0], [0, 1]), ([0, 1], [1, 0]), ([0, 0], [0, 1]),
                              ([0, 1], [1, 1]), ([2], [0]), ([0], [2]), ([-1], [0]), ([0], [-1]), ([10 ** 30], [0]),
                              ([0], [10 ** 30]), ([0] * 999, [0] * 999), (list(range(999)), list(range(999)))):
            self.assertIs(fresh(self, is_regular, GRID, *marks, rows, columns), False, (rows, columns))

    def test_lists_that_are_no_sets(self):
        # All sets of as many rows and columns are regular here.
        grid = [("exact", [[1], [1], [1]]), ("exact", [[1], [2], [4]]), ("sized", [[0], [0], [0]])]
        marks = ([0] * 3, [0] * 3)
        self.assertIs(is_regular(grid, *marks, [0, 1, 2], [0, 1, 2]), True)
        for wrong in ([1, 0], [2, 0], [2, 1, 0], [0, 2, 1], [0, 0], [1, 1, 1], [-1], [-3], [3], [0, 3], [-1, 0], [0, 1, 2, 3],
                      [-1, 1, 2], [10 ** 30], [-(10 ** 30)]):
            right = list(range(len(wrong)))[:3]
            self.assertIs(is_regular(grid, *marks, wrong, right), False, wrong)
            self.assertIs(is_regular(grid, *marks, right, wrong), False, wrong)
            self.assertIs(is_regular(grid, *marks, wrong, wrong), False, wrong)

    def test_all_sets(self):
        chance = random.Random(5031)
        both = set()
        for grid in small_grids(110):
            for p, q in some_marks(chance, grid):
                tight = slow_tight(grid, p, q)
                for rows in subsets(range(len(grid))):
                    for columns in subsets(range(len(grid))):
                        told = len(rows) == len(columns) and slow_regular(grid, tight, rows, columns)
                        self.assertIs(is_regular(grid, p, q, rows, columns), told)
                        both.add((told, len(rows) > 2))
        self.assertEqual(len(both), 4)

    def test_short_sets(self):
        chance = random.Random(5032)
        both = set()
        for grid in small_grids(200):
            everything = list(range(len(grid)))
            for p, q in some_marks(chance, grid):
                tight = slow_tight(grid, p, q)
                told = slow_regular(grid, tight, everything, everything)
                columns = fresh(self, short_set, grid, p, q)
                both.add(told)
                self.assertIs(columns is None, told)
                if columns is not None:
                    self.assertEqual(columns, sorted(set(columns)))
                    self.assertLess(slow_strength(grid, tight, everything, columns), len(columns))
        self.assertEqual(both, {True, False})

    def test_great_numbers(self):
        chance = random.Random(5033)
        for _ in range(20):
            n = chance.randint(2, 16)
            rows = [[chance.randint(-(10 ** 30), 10 ** 30) for _ in range(n)] for _ in range(n)]
            last = chance.randint(1, n - 1)
            factors = [chance.randint(-9, 9) or 1 for _ in range(last)]
            rows[last] = [sum(f * row[j] for f, row in zip(factors, rows)) for j in range(n)]
            if any(abs(number) > 10 ** 30 for number in rows[last]):
                rows[:last] = [[number // 10 ** 3 for number in row] for row in rows[:last]]
                rows[last] = [sum(f * row[j] for f, row in zip(factors, rows)) for j in range(n)]
            grid = [("exact", [[0] * 12 + [number] for number in row]) for row in rows]
            marks = ([0] * n, [12] * n)
            everything = list(range(n))
            self.assertIs(is_regular(grid, *marks, everything, everything), False)
            self.assertEqual(short_set(grid, *marks), everything)
            others = [i for i in everything if i != last]
            self.assertIs(is_regular(grid, *marks, others, everything[1:]), True)
            grid[last] = ("exact", [[0] * 12 + [rows[last][0] + 1]] + grid[last][1][1:])
            self.assertIs(is_regular(grid, *marks, everything, everything), True)
            self.assertEqual(short_set(grid, *marks), None)


if __name__ == "__main__":
    unittest.main()
