import random
import time
import unittest

from tests.helpers import fresh, mutated
from tests.slow_grids import exact_of, mixed, small_grids
from tests.slow_steer import (
    arrangements, common_grids, power, slow_are_weights, slow_check_factor, slow_factor, slow_is_arrangement, times)
from unsaidsizes.begin.relax import beginnings
from unsaidsizes.runs.said import said_grid
from unsaidsizes.base.tables import determinant, value_at
from unsaidsizes.marks.grids import exact_rows, grid_of
from unsaidsizes.steer.factor import are_weights, check_factor, exact_factor, factor_paper, is_arrangement

EXAMPLE = [("exact", [[1, 1], [], [-1], []]), ("exact", [[], [1, 1], [], [-1]]), ("sized", [[], [], [0], [0]]),
           ("sized", [[0], [0], [0], [0]])]


def degrees(grid):
    return sum(max([0] + [len(one) - 1 for one in row]) for kind, row in grid if kind == "exact")


def wide_grid(chance, n, exact, number, orders=(0, 1, 2, 3)):
    """A grid with degrees of the exact rows of 12 in all at most."""
    left, grid = 12, []
    for at in range(n):
        if at < exact:
            degree = min(left, chance.choice([0, 1, 1, 2, 3]))
            left -= degree
            grid.append(("exact", [[chance.randint(-number, number) for _ in range(degree)] + [chance.randint(1, number)]
                                   if chance.random() < 0.8 else [] for _ in range(n)]))
        else:
            grid.append(("sized", [sorted(chance.sample(orders, chance.randint(1, 2))) if chance.random() < 0.4 else []
                                   for _ in range(n)]))
    chance.shuffle(grid)
    return grid


class TestExactFactor(unittest.TestCase):
    def test_example(self):
        self.assertEqual(fresh(self, exact_factor, EXAMPLE), [1, 1])

    def test_told(self):
        for grid, told in (
                ([], [1]), ([("exact", [[]])], None), ([("sized", [[]])], None), ([("exact", [[6]])], [1]), ([("exact", [[-4, -2]])], [2, 1]),
                ([("exact", [[0, 0, -3]])], [0, 0, 1]), ([("sized", [[2, 3]])], [0, 0, 1]), ([("sized", [[0, 3]])], [1]),
                ([("exact", [[1, 1], [1, 1]]), ("sized", [[1], [0]])], [1, 1]), ([("exact", [[0, 1], [0, 1]]), ("sized", [[1], [2]])], [0, 0, 1]),
                ([("exact", [[0, 1], [1]]), ("sized", [[1], [2]])], [0, 1]), ([("exact", [[0, 1], [1]]), ("exact", [[0, 2], [2]])], None),
                ([("exact", [[1, 1], [1]]), ("exact", [[1], [1, 1]])], [0, 2, 1]), ([("sized", [[1], [2]]), ("sized", [[1], []])], [0, 0, 0, 1]),
                # A factor in each minor, but not in any row or column.
                ([("exact", [[1, 1], [], [2]]), ("exact", [[], [1, 1], [3]]), ("sized", [[0], [0], []])], [1, 1])):
            self.assertEqual(exact_factor(grid), told, grid)

    def test_small_grids(self):
        kinds = {}
        for grid in common_grids(400) + [grid for grid in small_grids(200) if degrees(grid) <= 12]:
            told = fresh(self, exact_factor, grid)
            self.assertEqual(told, slow_factor(grid), grid)
            kinds[told and len(told)] = kinds.get(told and len(told), 0) + 1
            if told is None:
                self.assertIsNone(beginnings(grid))
            else:
                self.assertLessEqual(len(told) - 1, beginnings(grid))
        self.assertGreater(min(kinds.get(key, 0) for key in (None, 1, 2, 3, 4, 5)), 10)

    def test_divides_said_determinants(self):
        chance = random.Random(902)
        model = (["x", "y", "u", "v"], [
            ("exact", [(1, 1, 0), (1, 0, 0), (-1, 0, 2)], ""), ("exact", [(1, 1, 1), (1, 0, 1), (-1, 0, 3)], ""),
            ("sized", 0, 2, [("s", 0, 3)], ""), ("sized", 0, 0, [("a", 0, 1), ("b", 1, 2), ("c", 0, 3)], "")])
        self.assertEqual(exact_factor(grid_of(model)), [1, 1])
        for _ in range(30):
            rows, _ = said_grid(model, [(chance.randint(-9, 9), 1) for _ in range(4)])
            self.assertEqual(determinant(value_at(exact_rows(rows), -1)), 0)

    def test_sixteen_rows(self):
        chance = random.Random(903)
        begun, full = time.monotonic(), 0
        for exact in (0, 1, 4, 6, 8, 10, 12, 15, 16):
            for number in (1, 3, 1000000):
                grid = mixed(chance, wide_grid(chance, 16, exact, number), chance.choice([0, 10]))
                told = exact_factor(grid)
                if degrees(grid) <= 12 and told is not None:
                    full += 1
                    self.assertIs(check_factor(grid, told, factor_paper(grid)), True)
        self.assertGreater(full, 10)
        self.assertLess(time.monotonic() - begun, 60)

    def test_grids_put_together(self):
        # Point 906: of one grid and another one, with places of the one at columns of the other.
        chance = random.Random(906)
        grids = [grid for grid in common_grids(200, 7, 3) if exact_factor(grid) is not None and degrees(grid) <= 6]
        for _ in range(150):
            one, two = chance.choice(grids), chance.choice(grids)
            grid = [(kind, row + [[] for _ in two]) for kind, row in one]
            for kind, row in two:
                if kind == "sized":
                    grid.append((kind, [sorted(chance.sample(range(4), chance.randint(0, 2))) for _ in one] + row))
                else:
                    most = max([0] + [len(poly) - 1 for poly in row])
                    made = [[chance.randint(-3, 3) for _ in range(chance.randint(0, most))] + [chance.randint(1, 3)] for _ in one]
                    grid.append((kind, [poly if chance.random() < 0.7 else [] for poly in made] + row))
            order = chance.sample(range(len(grid)), len(grid))
            grid = [(kind, [row[j] for j in order]) for kind, row in grid]
            chance.shuffle(grid)
            self.assertEqual(exact_factor(grid), times(exact_factor(one), exact_factor(two)))
            self.assertEqual(beginnings(grid), beginnings(one) + beginnings(two))


class TestArrangements(unittest.TestCase):
    def test_told(self):
        grid = [("exact", [[1, 1], [2], [], []]), ("sized", [[0], [], [1, 2], []]), ("exact", [[2, 2], [4], [], [3]]),
                ("sized", [[], [3], [0], [1]])]
        for columns, places, told in (
                ([0, 3], [2, 1], True), ([1, 3], [0, 2], True), ([0, 3], [1, 2], False), ([0, 1], [2, 3], False), ([3, 0], [2, 1], False),
                ([0, 0], [2, 1], False), ([0, 2], [2, 1], False), ([0], [2, 1], False), ([0, 1, 3], [2], False), ([0, 3], [2], False),
                ([0, 3], [2, 1, 1], False), ([0, 3], [2, 2], False), ([0, 3], [0, 1], False), ([0, 3], [2, 3], False), ([0, 4], [2, 1], False),
                ([-1, 0], [2, 1], False), ([0, 3], [-2, 1], False), ([0, 3], [2, -3], False), ([0, 10 ** 30], [2, 1], False),
                ([], [], False), ([1, 2], [0, 3], False)):
            self.assertIs(fresh(self, is_arrangement, grid, columns, places), told, (columns, places))
            self.assertIs(slow_is_arrangement(grid, columns, places), told)
        self.assertIs(is_arrangement([], [], []), True)
        self.assertIs(is_arrangement([], [0], []), False)
        self.assertIs(is_arrangement([], [], [0]), False)
        self.assertIs(is_arrangement([("exact", [[]])], [0], []), False)

    def test_all_lists(self):
        chance = random.Random(907)
        right = 0
        for grid in common_grids(60, 8, 3):
            known = [(columns, places) for columns, places, _, _ in arrangements(grid)]
            for _ in range(40):
                columns = [chance.randint(-1, len(grid)) for _ in range(len(exact_of(grid)) + chance.choice([0, 0, 0, 1]))]
                places = [chance.randint(-1, len(grid)) for _ in range(len(grid) - len(columns))]
                if chance.random() < 0.5 and known:
                    columns, places = chance.choice(known)
                told = is_arrangement(grid, columns, places)
                self.assertIs(told, (columns, places) in known)
                right += told
        self.assertGreater(right, 300)


class TestWeights(unittest.TestCase):
    GRID = [("exact", [[1, 1], [1, 2, 1], [3]]), ("sized", [[1], [0], [2, 3]]), ("sized", [[], [1], [0]])]

    def test_told(self):
        for part, columns, places, weights, told in (
                # The minors are d + 1, its square and 3.
                ([1, 1], [0], [1, 2], [0, 0, 0], False), ([1, 1], [2], [0, 1], [0, 0, 0], True), ([1, 1], [2], [0, 1], [5, 5, 5], True),
                ([1, 1], [2], [0, 1], [1, 1, 0], False), ([1, 1], [2], [0, 1], [-1, -1, 0], True), ([1, 1], [2], [0, 1], [-1, 0, 0], True),
                ([1, 1], [2], [0, 1], [0, 1, 0], False), ([1, 1], [2], [0, 1], [0, 0, -3], False), ([1, 1], [2], [0, 1], [-2, -2, 0], False),
                ([1, 2, 1], [2], [0, 1], [-1, -1, 0], False), ([1, 2, 1], [2], [0, 1], [0, 0, 0], True),
                # Factors of degree 0, with 0 as the first number, with a last number below 0, with a common integer.
                ([1], [2], [0, 1], [0, 0, 0], False), ([3], [2], [0, 1], [0, 0, 0], False), ([], [2], [0, 1], [0, 0, 0], False),
                ([-1, -1], [2], [0, 1], [0, 0, 0], False), ([2, 2], [2], [0, 1], [0, 0, 0], False), ([0, 1, 1], [2], [0, 1], [0, 0, 0], False),
                ([0, 0, 1], [2], [0, 1], [0, 0, 0], False), ([1, 1, 0], [2], [0, 1], [0, 0, 0], False), ([0], [2], [0, 1], [0, 0, 0], False),
                ([0, 2], [2], [0, 1], [0, 0, 0], False), ([7, 1], [2], [0, 1], [0, 0, 0], True), ([1, 0, 1], [2], [0, 1], [0, 0, 0], True),
                # d alone: the order is that of the places.
                ([0, 1], [0], [1, 2], [0, 0, 0], True), ([0, 1], [2], [0, 1], [0, 0, 0], False), ([0, 1], [2], [0, 1], [0, 1, 0], False),
                ([0, 1], [0], [1, 2], [1, 0, 0], False), ([0, 1], [0], [1, 2], [0, 1, 1], True),
                ([0, 1], [0], [1, 2], [0, 2, 2], False), ([0, 1], [0], [1, 2], [0, 1, 2], True), ([0, 1], [0], [1, 2], [0, 1, 3], False), ([0, 1], [0], [1, 2], [0, 0, 1], True), ([0, 1], [1], [0, 2], [0, 0, 0], False),
                # No product of a power and a polynomial prime to it: (d + 1) ** 2 is no power of d ** 2 - 1.
                ([-1, 0, 1], [1], [0, 2], [0, 0, 0], False), ([-1, 0, 1], [2], [0, 1], [0, 0, 0], True), ([1, 2, 1], [1], [0, 2], [0, 1, 0], False),
                ([1, 2, 1], [0], [1, 2], [0, 0, 0], False),
                # Lists that are too long or short, or no arrangement; integers of any size.
                ([1, 1], [2], [0, 1], [0, 0], False), ([1, 1], [2], [0, 1], [0, 0, 0, 0], False), ([1, 1], [2], [0, 1], [], False),
                ([1, 1], [2], [1, 0], [0, 0, 0], False), ([1, 1], [], [0, 1], [0, 0, 0], False), ([1, 1], [3], [0, 1], [0, 0, 0], False),
                ([1, 1], [2], [0, 1], [10 ** 30, 10 ** 30, -10 ** 30], False), ([1, 1], [2], [0, 1], [10 ** 30, 10 ** 30, 10 ** 30], True),
                ([1, 1], [2], [0, 1], [-10 ** 30, -10 ** 30, 10 ** 30], False), ([10 ** 400, 1], [2], [0, 1], [0, 0, 0], True)):
            self.assertIs(fresh(self, are_weights, self.GRID, part, columns, places, weights), told, (part, columns, places, weights))
            self.assertIs(slow_are_weights(self.GRID, part, columns, places, weights) is not None, told)

    def test_noughts(self):
        grid = [("exact", [[1, 1], []]), ("sized", [[0], [0]])]
        for part in ([1, 1], [0, 1], [7, 1]):
            # A minor that is nought; and no minor but nought beside the right one.
            self.assertIs(are_weights(grid, part, [1], [0], [0, 0]), False)
            self.assertIs(slow_are_weights(grid, part, [1], [0], [0, 0]) is not None, False)
            self.assertIs(is_arrangement(grid, [1], [0]), False)
            for weights, told in (([0, 0], True), ([10 ** 30, 10 ** 30], True), ([10 ** 30, 0], True), ([0, 1], False)):
                self.assertIs(are_weights(grid, part, [0], [1], weights), told)
                self.assertIs(slow_are_weights(grid, part, [0], [1], weights) is not None, told)
        self.assertIs(check_factor(grid, [1, 1], ([0], [1], [([1, 1], [0], [1], [5, 0])])), True)
        self.assertIs(check_factor(grid, [1, 1], ([0], [1], [([1, 1], [1], [0], [0, 0])])), False)

    def test_of_papers(self):
        chance = random.Random(904)
        kinds = {True: 0, False: 0}
        for grid in common_grids(200, 9):
            paper = factor_paper(grid)
            if paper is None:
                continue
            for part, columns, places, weights in paper[2]:
                self.assertIs(are_weights(grid, part, columns, places, weights), True)
                for at in range(len(weights)):
                    for more in (1, -1):
                        other = weights[:at] + [weights[at] + more] + weights[at + 1:]
                        told = fresh(self, are_weights, grid, part, columns, places, other)
                        self.assertIs(told, slow_are_weights(grid, part, columns, places, other) is not None)
                        kinds[told] += 1
                own = [chance.randint(-2, 2) for _ in grid]
                square = times(part, part)
                for other in (square, times(part, [5, 1]), [-c for c in part], times(part, [0, 1])):
                    told = are_weights(grid, other, columns, places, own)
                    self.assertIs(told, slow_are_weights(grid, other, columns, places, own) is not None)
        self.assertGreater(min(kinds.values()), 200)


class TestPapers(unittest.TestCase):
    def test_told(self):
        for grid in common_grids(250, 10):
            told, paper = exact_factor(grid), fresh(self, factor_paper, grid)
            self.assertIs(paper is None, told is None)
            if paper is not None:
                self.assertIs(fresh(self, check_factor, grid, told, paper), True)
                self.assertIs(slow_check_factor(grid, told, paper), True)
                for other in ([], [0], told + [0], times(told, [2]), [-c for c in told], times(told, [1, 1]), times(told, [0, 1]), [1], [10 ** 30]):
                    self.assertIs(check_factor(grid, other, paper), other == told)

    def test_changed_papers(self):
        chance = random.Random(905)
        refused = accepted = 0
        for grid in common_grids(250, 11):
            told, paper = exact_factor(grid), factor_paper(grid)
            if paper is None:
                continue
            for _ in range(15):
                other = mutated(chance, paper, {0: [0], 1: [0], 2: [([1, 1], [], [], [0] * len(grid))]})
                right = slow_check_factor(grid, told, other)
                self.assertIs(fresh(self, check_factor, grid, told, other), right, (grid, other))
                refused += not right
                accepted += right
        self.assertGreater(refused, 500)
        self.assertGreater(accepted, 100)

    def test_one_thing_changed(self):
        # The exact factor is d (d + 1); the first arrangement has d - 3 besides.
        grid = [("exact", [times([1, 1], [2, 1]), times([1, 1], [-3, 1])]), ("sized", [[1], [2]])]
        self.assertEqual(exact_factor(grid), [0, 1, 1])
        good = ([1], [0], [([1, 1], [1], [0], [0, 0]), ([-3, 1], [0], [1], [0, 0]), ([0, 1], [1], [0], [0, 0])])
        self.assertIs(slow_check_factor(grid, [0, 1, 1], good), True)
        self.assertIs(fresh(self, check_factor, grid, [0, 1, 1], good), True)
        tuples = good[2]
        for others in (
                # Left out, twice, the product of two, a factor that is none.
                tuples[1:], tuples[:2], tuples[:1] + tuples[2:], tuples + tuples[:1], tuples + tuples[2:], [],
                [([-3, -2, 1], [1], [0], [0, 0]), tuples[2]], [([-3, -2, 1], [0], [1], [0, 0]), tuples[2]],
                [([2, 2], [1], [0], [0, 0])] + tuples[1:], [([-1, -1], [1], [0], [0, 0])] + tuples[1:], [([1, 1, 0], [1], [0], [0, 0])] + tuples[1:],
                [([1], [1], [0], [0, 0])] + tuples, [([], [1], [0], [0, 0])] + tuples, [([1, 2, 1], [1], [0], [0, 0])] + tuples[1:],
                tuples[:2] + [([0, 0, 1], [1], [0], [0, 0])], tuples[:2] + [([0, 2], [1], [0], [0, 0])],
                # Arrangements exchanged, none, weights changed.
                [tuples[0], ([-3, 1], [1], [0], [0, 0]), tuples[2]], tuples[:2] + [([0, 1], [0], [1], [0, 0])],
                [([1, 1], [1], [1], [0, 0])] + tuples[1:], [([1, 1], [], [], [0, 0])] + tuples[1:], [([1, 1], [1], [0], [0])] + tuples[1:],
                [tuples[0], ([-3, 1], [0], [1], [0, 1]), tuples[2]], tuples + [([7, 1], [0], [1], [5, 0])]):
            paper = good[:2] + (others,)
            self.assertIs(slow_check_factor(grid, [0, 1, 1], paper), False, others)
            self.assertIs(check_factor(grid, [0, 1, 1], paper), False, others)
        for paper in (([0], [1], tuples), ([0], [1], tuples + [([2, 1], [1], [0], [0, 0])]), ([1], [0], list(reversed(tuples))),
                      ([1], [0], tuples + [([7, 1], [0], [1], [0, 0])]), ([1], [0], tuples + [([1, 0, 1], [1], [0], [0, 0])]),
                      ([], [0], tuples), ([1], [], tuples), ([1], [1], tuples), ([2], [0], tuples), ([0, 1], [], tuples)):
            self.assertIs(check_factor(grid, [0, 1, 1], paper), slow_check_factor(grid, [0, 1, 1], paper), paper)

    def test_powers_as_factors(self):
        # A square of a factor may stand for it, if the minors are powers of it alone.
        grid = [("exact", [power([1, 1], 2), power([1, 1], 2)]), ("sized", [[0], [0]])]
        self.assertIs(check_factor(grid, [1, 2, 1], ([0], [1], [([1, 2, 1], [0], [1], [0, 0])])), True)
        self.assertIs(check_factor(grid, [1, 2, 1], ([0], [1], [([1, 1], [0], [1], [0, 0])])), True)
        self.assertIs(check_factor(grid, [1, 1], ([0], [1], [([1, 1], [0], [1], [0, 0])])), False)
        self.assertIs(check_factor(grid, [1, 2, 1], ([0], [1], [([1, 3, 3, 1], [0], [1], [0, 0])])), False)
        grid = [("exact", [power([1, 1], 3), power([1, 1], 2)]), ("sized", [[0], [0]])]
        self.assertIs(check_factor(grid, [1, 2, 1], ([0], [1], [([1, 2, 1], [1], [0], [0, 0])])), True)
        self.assertIs(check_factor(grid, [1, 2, 1], ([0], [1], [([1, 2, 1], [0], [1], [0, 0])])), False)

    def test_without_rows(self):
        self.assertEqual(factor_paper([]), ([], [], []))
        self.assertIs(check_factor([], [1], ([], [], [])), True)
        self.assertIs(check_factor([], [1], ([], [], [([1, 1], [], [], [])])), True)
        for factor, paper in (([], ([], [], [])), ([1, 1], ([], [], [])), ([1], ([0], [], [])), ([1], ([], [0], [])), ([0, 1], ([], [], [])),
                              ([1], ([], [], [([0, 0, 1], [], [], [])])), ([1], ([], [], [([1, 1], [], [], [0])]))):
            self.assertIs(check_factor([], factor, paper), False)
        self.assertIs(check_factor([("exact", [[]])], [1], ([0], [], [])), False)
        self.assertIs(check_factor([("sized", [[]])], [1], ([], [0], [])), False)

    def test_long_lists(self):
        begun = time.monotonic()
        told, paper = exact_factor(EXAMPLE), factor_paper(EXAMPLE)
        # This is prime to all minors.
        more = ([1] * 99999, [0, 3], [2, 1], [0, 0, 0, 0])
        self.assertIs(are_weights(EXAMPLE, *more), True)
        self.assertIs(check_factor(EXAMPLE, told, paper[:2] + (paper[2] + [more],)), True)
        for long in ([0] * 100000, list(range(100000)), [10 ** 30] * 100000, [-1] * 100000, [1] * 100000, [1] * 99999):
            self.assertIs(is_arrangement(EXAMPLE, long, long), False)
            for at in range(4):
                own = paper[2][0][:at] + (long,) + paper[2][0][at + 1:]
                self.assertIs(are_weights(EXAMPLE, *own), False)
                self.assertIs(check_factor(EXAMPLE, told, paper[:2] + ([own],)), False)
                self.assertIs(check_factor(EXAMPLE, told, paper[:2] + ([paper[2][0], own],)), False)
            self.assertIs(check_factor(EXAMPLE, long, paper), False)
            self.assertIs(check_factor(EXAMPLE, told, (long, paper[1], paper[2])), False)
            self.assertIs(check_factor(EXAMPLE, told, (paper[0], long, paper[2])), False)
        self.assertIs(check_factor(EXAMPLE, told, paper[:2] + (paper[2] * 100000,)), False)
        self.assertIs(check_factor(EXAMPLE, told, paper[:2] + ([([], [], [], [])] * 100000,)), False)
        self.assertLess(time.monotonic() - begun, 60)


if __name__ == "__main__":
    unittest.main()
