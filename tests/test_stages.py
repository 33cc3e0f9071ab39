import random
import unittest
from itertools import combinations, product

from tests.helpers import fails, fresh, mutated
from tests.slow_grids import made_grid, mixed, slow_regular, slow_tight, small_grids
from tests.test_beginnings import FILLERS, slow_changed, slow_check
from unsaidsizes.begin.relax import beginnings, beginnings_paper, check_beginnings
from unsaidsizes.errors import NotAChoice, NotAPaper, OutOfRange
from unsaidsizes.stages.choice import told_choice
from unsaidsizes.stages.stages import beginnings_of, first_stage, is_choice, stage

# x'' = s y + f, y' = t x + u z, 0 = z - 2 x
GRID = [("sized", [[2], [0], []]), ("sized", [[0], [1], [0]]), ("exact", [[-2], [], [1]])]
PAPER = ([[[1]]], [[[1]]], [0, 0, 0], [2, 1, 0], [2], [0, 1])
HIGHER = ([[[1]]], [[[1]]], [1, 1, 2], [3, 2, 2], [2], [0, 1])


def raised(paper, up):
    """The paper with marks that are all greater."""
    changes, inverse, p, q, columns, places = paper
    return (changes, inverse, [one + up for one in p], [one + up for one in q], columns, places)


def papers(chance, grid):
    """Some papers that the check accepts: with the least marks, with greater ones, with other changes."""
    paper = beginnings_paper(grid)
    yield paper
    yield raised(paper, chance.randint(1, 3))
    changes, inverse, p, q, columns, places = paper
    factor = chance.choice([-1, 3, 10 ** 40])
    yield ([[[factor * c for c in one] for one in row] for row in changes], inverse, p, q, columns, places)
    for _ in range(3):
        # Greater marks for some rows and columns only, if they are right.
        rows = [chance.randint(0, 1) for _ in p]
        more = [chance.randint(0, 1) for _ in q]
        other = (changes, inverse, [a + b for a, b in zip(p, rows)], [a + b for a, b in zip(q, more)], columns, places)
        if check_beginnings(grid, sum(other[3]) - sum(other[2]), other):
            yield other


def slow_stage(paper, k):
    _, _, p, q, _, _ = paper
    return ([i for i, one in enumerate(p) if one + k >= 0], [j for j, one in enumerate(q) if one + k >= 0])


def slow_stages(paper):
    return list(range(-max([0] + paper[3]), 0))


def slow_choices(grid, paper):
    """For each stage below 0 all lists of columns that can be chosen."""
    now = slow_changed(grid, paper[0])
    tight = slow_tight(now, paper[2], paper[3])
    found = []
    for k in slow_stages(paper):
        rows, columns = slow_stage(paper, k)
        found.append([list(own) for own in combinations(columns, len(rows)) if slow_regular(now, tight, rows, list(own))])
    return found


def full_grids(many, most=4):
    return [grid for grid in small_grids(3 * many, 601, most) if beginnings(grid) is not None][:many]


class TestStages(unittest.TestCase):
    def test_told(self):
        self.assertIs(check_beginnings(GRID, 3, PAPER), True)
        self.assertEqual(first_stage(GRID, PAPER), -2)
        self.assertEqual(fresh(self, stage, GRID, PAPER, -2), ([], [0]))
        self.assertEqual(fresh(self, stage, GRID, PAPER, -1), ([], [0, 1]))
        for k in (0, 1, 7, 10 ** 30):
            self.assertEqual(fresh(self, stage, GRID, PAPER, k), ([0, 1, 2], [0, 1, 2]))
        self.assertIs(check_beginnings(GRID, 3, HIGHER), True)
        self.assertEqual(first_stage(GRID, HIGHER), -3)
        self.assertEqual([stage(GRID, HIGHER, k) for k in (-3, -2, -1, 0)], [
            ([], [0]), ([2], [0, 1, 2]), ([0, 1, 2], [0, 1, 2]), ([0, 1, 2], [0, 1, 2])])
        for k in (-3, -4, -(10 ** 30)):
            fails(self, OutOfRange, k, stage, GRID, PAPER, k)
        fails(self, OutOfRange, -4, stage, GRID, HIGHER, -4)

    def test_without_rows(self):
        paper = ([], [], [], [], [], [])
        self.assertEqual(first_stage([], paper), 0)
        self.assertEqual(fresh(self, stage, [], paper, 0), ([], []))
        self.assertEqual(stage([], paper, 3), ([], []))
        fails(self, OutOfRange, -1, stage, [], paper, -1)
        self.assertIs(is_choice([], paper, []), True)
        self.assertIs(is_choice([], paper, [[]]), False)
        self.assertEqual(fresh(self, beginnings_of, [], paper, []), [])
        fails(self, NotAPaper, 0, first_stage, [], ([], [], [0], [], [], []))

    def test_made_up(self):
        chance = random.Random(601)
        for grid in full_grids(60):
            for paper in papers(chance, grid):
                first = first_stage(grid, paper)
                self.assertEqual(first, -max([0] + paper[3]))
                for k in range(first, 4):
                    rows, columns = fresh(self, stage, grid, paper, k)
                    self.assertEqual((rows, columns), slow_stage(paper, k))
                    self.assertLessEqual(len(rows), len(columns))
                    if k >= 0:
                        self.assertEqual((rows, columns), (list(range(len(grid))), list(range(len(grid)))))
                fails(self, OutOfRange, first - 1, stage, grid, paper, first - 1)

    def test_not_a_paper(self):
        chance = random.Random(6011)
        refused = 0
        for grid in full_grids(60):
            for _ in range(6):
                paper = mutated(chance, beginnings_paper(grid), FILLERS)
                if slow_check(grid, sum(paper[3]) - sum(paper[2]), paper):
                    self.assertEqual(first_stage(grid, paper), -max([0] + paper[3]))
                    continue
                refused += 1
                fails(self, NotAPaper, 0, first_stage, grid, paper)
                for k in (-10 ** 30, -1, 0):
                    fails(self, NotAPaper, 0, stage, grid, paper, k)
                for choice in ([], [[9]], told_choice(grid, beginnings_paper(grid), [])):
                    fails(self, NotAPaper, 0, is_choice, grid, paper, choice)
                    fails(self, NotAPaper, 0, beginnings_of, grid, paper, choice)
        self.assertGreater(refused, 200)
        # One mark, one change, one column.
        for at, wrong in ((2, [1, 0, 0]), (3, [2, 2, 0]), (3, [2, 1, 1]), (0, [[[0, 1]]]), (0, [[[]]]), (1, [[[2, 1]]]), (4, [0]), (5, [1, 0])):
            paper = PAPER[:at] + (wrong,) + PAPER[at + 1:]
            fails(self, NotAPaper, 0, first_stage, GRID, paper)
            fails(self, NotAPaper, 0, stage, GRID, paper, -99)


class TestChoices(unittest.TestCase):
    def test_told(self):
        self.assertIs(fresh(self, is_choice, GRID, PAPER, [[], []]), True)
        self.assertEqual(fresh(self, beginnings_of, GRID, PAPER, [[], []]), [(0, 0), (0, 1), (1, 0)])
        # At the stage -2 the last row, once differentiated, tells one of the jets of x' and z'.
        self.assertIs(fresh(self, is_choice, GRID, HIGHER, [[], [2], [0, 1, 2]]), True)
        self.assertIs(fresh(self, is_choice, GRID, HIGHER, [[], [0], [0, 1, 2]]), False)
        self.assertEqual(beginnings_of(GRID, HIGHER, [[], [2], [0, 1, 2]]), [(0, 0), (0, 1), (1, 0)])
        other = ([[[1]]], [[[1]]], [1, 1, 3], [3, 2, 3], [2], [0, 1])
        for right in ([[2], [2], [0, 1, 2]], [[0], [2], [0, 1, 2]], [[2], [0], [0, 1, 2]], [[0], [0], [0, 1, 2]]):
            self.assertIs(is_choice(GRID, other, right), True)
        for choice in ([[0], [1], [0, 1, 2]], [[2], [1], [0, 1, 2]], [[2], [2]], [[2], [2], [0, 1, 2], []],
                       [], [[2], [2, 2], [0, 1, 2]], [[2], [2], [0, 2, 1]], [[2], [2], [1, 2]], [[2], [], [0, 1, 2]],
                       [[], [2], [0, 1, 2]], [[1], [2], [0, 1, 2]], [[2], [3], [0, 1, 2]], [[2], [-1], [0, 1, 2]],
                       [[2], [2], [0, 1, 10 ** 30]], [[2], [2], [0, 0, 1]], [[2] * 900, [2], [0, 1, 2]], [[2]] * 900):
            self.assertIs(fresh(self, is_choice, GRID, other, choice), False, choice)
            fails(self, NotAChoice, 0, beginnings_of, GRID, other, choice)

    def test_all_sets_of_columns(self):
        chance = random.Random(602)
        both = set()
        for grid in full_grids(70):
            number = beginnings(grid)
            for paper in papers(chance, grid):
                told = slow_choices(grid, paper)
                self.assertTrue(all(told))
                stages = slow_stages(paper)
                for _ in range(8):
                    choice = []
                    for k, own in zip(stages, told):
                        if chance.random() < 0.85:
                            choice.append(list(chance.choice(own)))
                        else:
                            rows, columns = slow_stage(paper, k)
                            choice.append(sorted(chance.sample(columns, len(rows))))
                    if chance.random() < 0.2:
                        choice = mutated(chance, choice)
                    right = len(choice) == len(told) and all(one in own for one, own in zip(choice, told))
                    both.add((right, max([0] + [len(own) for own in told]) > 1))
                    self.assertIs(fresh(self, is_choice, grid, paper, choice), right)
                    if not right:
                        fails(self, NotAChoice, 0, beginnings_of, grid, paper, choice)
                        continue
                    jets = [(j, paper[3][j] + k) for k, one in zip(stages, choice)
                            for j in slow_stage(paper, k)[1] if j not in one]
                    self.assertEqual(fresh(self, beginnings_of, grid, paper, choice), jets)
                    self.assertEqual(len(jets), number)
                    self.assertEqual(len(set(jets)), number)
        self.assertEqual(len(both), 4)

    def test_each_set_of_small_grids(self):
        for grid in full_grids(40, most=3):
            paper = raised(beginnings_paper(grid), 1)
            told = slow_choices(grid, paper)
            one = [own[0] for own in told]
            for at, k in enumerate(slow_stages(paper)):
                for own in product(range(-1, len(grid) + 1), repeat=len(slow_stage(paper, k)[0])):
                    choice = one[:at] + [list(own)] + one[at + 1:]
                    self.assertIs(is_choice(grid, paper, choice), list(own) in told[at])

    def test_many_stages(self):
        chance = random.Random(6021)
        for n in (1, 2, 5, 16):
            grid = [("exact", [[]])]
            while beginnings(grid) is None:
                grid = mixed(chance, made_grid(chance, n, 0.7, 0.6, 2, 5), 20)
            paper = beginnings_paper(grid)
            paper = raised(paper, 1000 - max(paper[3]))
            self.assertEqual(first_stage(grid, paper), -1000)
            choice = told_choice(grid, paper, [])
            self.assertIs(is_choice(grid, paper, choice), True)
            self.assertEqual(len(beginnings_of(grid, paper, choice)), beginnings(grid))
            self.assertIs(is_choice(grid, paper, choice[1:]), False)


if __name__ == "__main__":
    unittest.main()
