import random
import unittest

from tests.helpers import fails, fresh, mutated
from tests.slow_grids import chosen_degree, made_grid, mixed, slow_beginnings, small_grids
from tests.test_beginnings import FILLERS, slow_check
from unsaidsizes.begin.depth import check_depth, depth, depth_paper, depths, index
from unsaidsizes.begin.relax import beginnings, beginnings_paper
from unsaidsizes.blocks.hangs import hangs
from unsaidsizes.errors import NoLaw, NoQuantity, NotFull, TooLarge
from unsaidsizes.marks.grids import without

# x' = v, and x is the source: v is the derivative of the source.
DIFFERENTIATOR = [("exact", [[0, 1], [-1]]), ("exact", [[1], []])]
# x' = s y + f, y = t z + g, z' = u z + h
CHAIN = [("sized", [[1], [0], []]), ("sized", [[], [0], [0]]), ("sized", [[], [], [0, 1]])]


def slow_without(grid, i, j):
    return [(kind, row[:j] + row[j + 1:]) for k, (kind, row) in enumerate(grid) if k != i]


def slow_depths(grid):
    whole, many = slow_beginnings(grid), range(len(grid))
    found = []
    for i in many:
        rest = [slow_beginnings(slow_without(grid, i, j)) for j in many]
        found.append([None if one is None else one - whole for one in rest])
    return found


class TestDepth(unittest.TestCase):
    def test_told(self):
        self.assertEqual(fresh(self, depths, DIFFERENTIATOR), [[None, 0], [0, 1]])
        self.assertEqual(index(DIFFERENTIATOR), 2)
        self.assertEqual(depth(DIFFERENTIATOR, 1, 1), 1)
        self.assertEqual(depth(DIFFERENTIATOR, 0, 0), None)
        self.assertEqual(fresh(self, depths, CHAIN), [[-1, None, None], [-1, 0, None], [-2, -1, -1]])
        self.assertEqual(index(CHAIN), 1)
        self.assertEqual(depths([("exact", [[0, 0, 3]])]), [[-2]])
        self.assertEqual(index([("exact", [[0, 0, 3]])]), 0)
        self.assertEqual(index([("exact", [[0, 3]])]), 0)
        self.assertEqual(index([("exact", [[3]])]), 1)

    def test_without_rows(self):
        self.assertEqual(fresh(self, depths, []), [])
        self.assertEqual(index([]), 0)
        fails(self, NoLaw, 0, depth, [], 0, 0)
        fails(self, NoLaw, 0, depth_paper, [], 0, 0)
        fails(self, NoLaw, 0, check_depth, [], 0, 0, 0, (beginnings_paper([]), beginnings_paper([])))

    def test_by_definition(self):
        kinds = set()
        for grid in small_grids(260):
            if slow_beginnings(grid) is None:
                continue
            told = slow_depths(grid)
            self.assertEqual(depths(grid), told)
            known = [one for row in told for one in row if one is not None]
            self.assertEqual(index(grid), max([-1] + known) + 1)
            kinds |= {None if one is None else max(min(one, 2), -2) for row in told for one in row}
            for i, row in enumerate(told):
                for j, one in enumerate(row):
                    self.assertEqual(depth(grid, i, j), one)
        self.assertEqual(kinds, {None, -2, -1, 0, 1, 2})

    def test_none_where_nothing_hangs(self):
        chance = random.Random(509)
        tried = 0
        for _ in range(250):
            n = chance.randint(2, 6)
            grid = mixed(chance, made_grid(chance, n, 0.7, 0.4, 1, 2), 5, degree=1)
            if beginnings(grid) is None:
                continue
            laws = []
            for i, (kind, row) in enumerate(grid):
                if kind == "exact":
                    terms = [(c, k, j) for j, one in enumerate(row) for k, c in enumerate(one) if c]
                    laws.append(("exact", terms, "f"))
                else:
                    places = [(k, j) for j, one in enumerate(row) for k in one]
                    if len(places) == 1:
                        break
                    terms = [(f"s{i}x{m}", k, j) for m, (k, j) in enumerate(places[1:])]
                    laws.append(("sized",) + places[0] + (terms, ""))
            if len(laws) == n:
                told = hangs(([f"q{j}" for j in range(n)], laws))
                self.assertEqual([[j for j, one in enumerate(row) if one is not None] for row in depths(grid)], told)
                tried += 1
        self.assertGreater(tried, 15)

    def test_eight_rows(self):
        chance = random.Random(510)
        tried = 0
        for _ in range(10):
            grid = mixed(chance, made_grid(chance, 8, chance.choice([0.6, 1]), 0.4, 2, 5), 40)
            whole = chosen_degree(grid)
            if whole is None:
                continue
            told = depths(grid)
            for _ in range(12):
                i, j = chance.randrange(8), chance.randrange(8)
                rest = chosen_degree(slow_without(grid, i, j))
                self.assertEqual(told[i][j], None if rest is None else rest - whole)
                tried += 1
        self.assertGreater(tried, 50)

    def test_order_of_errors(self):
        large = [("exact", [[1] if i == j else [] for j in range(9)]) for i in range(9)]
        singular = [("exact", [[1, 1], [2]]), ("exact", [[2, 2], [4]])]
        paper = (beginnings_paper([]), beginnings_paper([]))
        for function, more in ((depth, ()), (depth_paper, ()), (check_depth, (0, paper))):
            for i, j in ((0, 0), (9, 9), (-1, 0), (0, 9)):
                fails(self, TooLarge, 9, function, large, i, j, *more)
            for i in (-1, 2, 10 ** 30):
                for j in (-1, 0, 2):
                    fails(self, NoLaw, i, function, DIFFERENTIATOR, i, j, *more)
                    fails(self, NoLaw, i, function, singular, i, j, *more)
            for j in (-1, 2, -(10 ** 30)):
                fails(self, NoQuantity, j, function, DIFFERENTIATOR, 1, j, *more)
                fails(self, NoQuantity, j, function, singular, 1, j, *more)
        for function in (depths, index):
            fails(self, TooLarge, 9, function, large)
            fails(self, NotFull, 1, function, singular)
            fails(self, NotFull, 0, function, [("exact", [[]])])
            fails(self, NotFull, 1, function, [("sized", [[0], []]), ("sized", [[0, 1], []])])
            fails(self, NotFull, 2, function, [("sized", [[0], [], []]), ("sized", [[1], [], []]), ("sized", [[], [2], []])])
            fails(self, NotFull, 2, function, [("exact", [[1], [], [1]]), ("sized", [[1], [], [0]]), ("sized", [[], [], [2, 3]])])
            # 16 rows that are not full are too many all the same.
            fails(self, TooLarge, 16, function, [("exact", [[]] * 16)] * 16)
        fails(self, NotFull, 1, depth, singular, 0, 0)
        fails(self, NotFull, 1, depth_paper, singular, 1, 1)
        self.assertIs(check_depth(singular, 0, 0, 0, (beginnings_paper([("exact", [[4]])]), beginnings_paper(DIFFERENTIATOR))), False)

    def test_ranks_of_great_grids(self):
        chance = random.Random(5101)
        for many in range(1, 8):
            grid = [("exact", [[chance.randint(-10 ** 6, 10 ** 6) or 1 for _ in range(4)] for _ in range(8)]) for _ in range(many)]
            for _ in range(8 - many):
                a, b = chance.choice([(1, 0), (0, 1), (1, 1), (-1, 1)])
                row = [[a * x + b * y for x, y in zip(one, two)] for one, two in zip(grid[0][1], grid[-1][1])]
                row = [one[:max([k + 1 for k, c in enumerate(one) if c], default=0)] for one in row]
                grid.append(("exact", row))
            fails(self, NotFull, many, index, grid)


class TestPapers(unittest.TestCase):
    def test_told(self):
        for grid in small_grids(120):
            if beginnings(grid) is None:
                continue
            for i, row in enumerate(depths(grid)):
                for j, told in enumerate(row):
                    paper = fresh(self, depth_paper, grid, i, j)
                    self.assertIs(paper is None, told is None)
                    if paper is not None:
                        self.assertIs(fresh(self, check_depth, grid, i, j, told, paper), True)
                        for number in (told + 1, told - 1, -told if told else 9, 10 ** 30):
                            self.assertIs(check_depth(grid, i, j, number, paper), False)
                        self.assertIs(check_depth(grid, i, j, -told, paper[::-1]), False)

    def test_one_thing_changed(self):
        chance = random.Random(511)
        refused = 0
        for grid in small_grids(150):
            if not grid or beginnings(grid) is None:
                continue
            i, j = chance.randrange(len(grid)), chance.randrange(len(grid))
            paper = depth_paper(grid, i, j)
            if paper is None:
                continue
            told = depth(grid, i, j)
            for _ in range(10):
                at = chance.randrange(2)
                other = list(paper)
                other[at] = mutated(chance, paper[at], FILLERS)
                sums = [sum(q) - sum(p) for _, _, p, q, _, _ in other]
                number = chance.choice([told, sums[0] - sums[1]])
                right = number == sums[0] - sums[1]
                for whole, one, own in ((slow_without(grid, i, j), other[0], sums[0]), (grid, other[1], sums[1])):
                    right = right and slow_check(whole, own, one)
                self.assertIs(fresh(self, check_depth, grid, i, j, number, tuple(other)), right)
                self.assertTrue(not right or number == told)
                refused += not right
        self.assertGreater(refused, 300)

    def test_other_places(self):
        paper = depth_paper(CHAIN, 2, 0)
        self.assertIs(check_depth(CHAIN, 2, 0, -2, paper), True)
        for i in range(3):
            for j in range(3):
                if (i, j) != (2, 0):
                    self.assertIs(check_depth(CHAIN, i, j, -2, paper), False)
        self.assertEqual(depth_paper(CHAIN, 0, 1), None)
        self.assertIs(check_depth(CHAIN, 0, 1, -2, (beginnings_paper(without(CHAIN, 0, 0)), paper[1])), False)


if __name__ == "__main__":
    unittest.main()
