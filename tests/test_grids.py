import random
import unittest

from tests.helpers import fails, fresh, made_up
from tests.slow_grids import added, powers, small_grids
from unsaidsizes.errors import NoLaw, NoQuantity, NotSquare, TooLarge, WrongSize
from unsaidsizes.marks.grids import changed, exact_rows, grid_of, powers_of, without

MODEL = (["a", "b", "c"], [
    ("exact", [(5, 3, 1), (-2, 0, 1), (7, 1, 0)], "f"),
    ("sized", 2, 1, [("s", 0, 1), ("t", 3, 1), ("u", 1, 2)], "g"), ("exact", [], "")])
GRID = [("exact", [[0, 7], [-2, 0, 0, 5], []]), ("sized", [[], [0, 2, 3], [1]]), ("exact", [[], [], []])]


class TestGridOf(unittest.TestCase):
    def test_told(self):
        self.assertEqual(fresh(self, grid_of, MODEL), GRID)
        self.assertEqual(fresh(self, grid_of, ([], [])), [])
        self.assertEqual(grid_of((["a"], [("exact", [], "f")])), [("exact", [[]])])
        self.assertEqual(grid_of((["a"], [("sized", 0, 0, [("s", 3, 0), ("t", 1, 0)], "")])), [("sized", [[0, 1, 3]])])

    def test_made_up(self):
        for seed in range(60):
            n = seed // 5 + 1
            model = made_up(seed, n, n, 0.5, 9, 4, 8)
            rows = []
            for told in model[1]:
                if told[0] == "exact":
                    row = [[] for _ in range(n)]
                    for number, k, j in told[1]:
                        row[j] = added(row[j], [1], number, k)
                else:
                    places = [(told[1], told[2])] + [(k, j) for _, k, j in told[3]]
                    row = [sorted(k for k, own in places if own == j) for j in range(n)]
                rows.append((told[0], row))
            self.assertEqual(fresh(self, grid_of, model), rows)

    def test_errors(self):
        names = [f"q{k}" for k in range(40)]
        laws = [("exact", [], "")] * 40
        for many, quantities in ((0, 1), (1, 0), (3, 2), (17, 16), (16, 17), (40, 30), (0, 30), (17, 3)):
            fails(self, NotSquare, many, grid_of, (names[:quantities], laws[:many]))
        for many in (17, 18, 30):
            fails(self, TooLarge, many, grid_of, (names[:many], laws[:many]))
        self.assertEqual(len(grid_of((names[:16], laws[:16]))), 16)


class TestGrids(unittest.TestCase):
    def test_powers_of(self):
        self.assertEqual(fresh(self, powers_of, GRID), [[1, 3, None], [None, 3, 1], [None, None, None]])
        self.assertEqual(powers_of([]), [])
        for grid in small_grids(80):
            self.assertEqual(fresh(self, powers_of, grid), powers(grid))

    def test_without(self):
        self.assertEqual(fresh(self, without, GRID, 0, 1), [("sized", [[], [1]]), ("exact", [[], []])])
        self.assertEqual(fresh(self, without, GRID, 2, 0), [("exact", [[-2, 0, 0, 5], []]), ("sized", [[0, 2, 3], [1]])])
        self.assertEqual(fresh(self, without, [("exact", [[1]])], 0, 0), [])
        for i in (-1, 3, -3, 10 ** 30):
            for j in (-1, 0, 3):
                fails(self, NoLaw, i, without, GRID, i, j)
        for j in (-1, 3, -(10 ** 30)):
            fails(self, NoQuantity, j, without, GRID, 2, j)
        fails(self, NoLaw, 0, without, [], 0, 0)

    def test_exact_rows(self):
        self.assertEqual(fresh(self, exact_rows, GRID), [[[0, 7], [-2, 0, 0, 5], []], [[], [], []]])
        self.assertEqual(exact_rows([]), [])
        self.assertEqual(exact_rows([("sized", [[0]])]), [])

    def test_changed(self):
        grid = [("exact", [[1], [0, 2]]), ("exact", [[3, 4], []])]
        self.assertEqual(fresh(self, changed, grid, [[[0, 1], []], [[-3, -4], [1]]]),
                         [("exact", [[0, 1], [0, 0, 2]]), ("exact", [[], [0, -6, -8]])])
        self.assertEqual(fresh(self, changed, GRID, [[[], [1]], [[2], []]]),
                         [("exact", [[], [], []]), ("sized", [[], [0, 2, 3], [1]]), ("exact", [[0, 14], [-4, 0, 0, 10], []])])
        # Whether there is an inverse is not looked at.
        self.assertEqual(changed(GRID, [[[], []], [[], []]]), [("exact", [[], [], []]), GRID[1], ("exact", [[], [], []])])
        self.assertEqual(fresh(self, changed, [], []), [])
        self.assertEqual(fresh(self, changed, [("sized", [[1]])], []), [("sized", [[1]])])

    def test_changed_by_products(self):
        chance = random.Random(505)
        for grid in small_grids(60):
            rows = [row for kind, row in grid if kind == "exact"]
            changes = [[[chance.randint(-3, 3) for _ in range(chance.randint(0, 2))] + [chance.choice([-1, 2])]
                        for _ in rows] for _ in rows]
            told = []
            for own in changes:
                total = [[] for _ in grid]
                for one, row in zip(own, rows):
                    for k, c in enumerate(one):
                        total = [added(sum_, poly, c, k) for sum_, poly in zip(total, row)]
                told.append(total)
            answer = fresh(self, changed, grid, changes)
            self.assertEqual([row for kind, row in answer if kind == "exact"], told)
            self.assertEqual([kind for kind, _ in answer], [kind for kind, _ in grid])
            self.assertEqual([row for kind, row in answer if kind == "sized"], [row for kind, row in grid if kind == "sized"])

    def test_changes_of_another_size(self):
        one = [[[1], []], [[], [1]]]
        for wrong in ([], one[:1], one + [[[], []]], [[[1], []], [[]]], [[[1], []], [[], [1], []]], [[[1]], [[], [1]]],
                      [[[1], [], []], [[], [1]]], [[], []], [[[1], [], []], [[], [1], []]], [[[1]]], one * 40):
            fails(self, WrongSize, 0, changed, GRID, wrong)
        for wrong in ([[[1]]], [[]], [[[1], []], [[], [1]]]):
            fails(self, WrongSize, 0, changed, [], wrong)
            fails(self, WrongSize, 0, changed, [("sized", [[1]])], wrong)
        grid = [("exact", [[1], [], []]), ("exact", [[], [1], []]), ("exact", [[], [], [1]])]
        unit = [[[1], [], []], [[], [1], []], [[], [], [1]]]
        self.assertEqual(changed(grid, unit), grid)
        for k in range(3):
            for row in ([], unit[k][:2], unit[k] + [[]]):
                fails(self, WrongSize, 0, changed, grid, unit[:k] + [row] + unit[k + 1:])


if __name__ == "__main__":
    unittest.main()
