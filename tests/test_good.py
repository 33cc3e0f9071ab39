import random
import unittest
from fractions import Fraction

from tests.helpers import fails, fresh, made_up
from tests.slow_grids import slow_beginnings
from tests.test_beginnings import slow_changed
from tests.test_stages import papers, raised, slow_stage, slow_stages
from unsaidsizes.begin.relax import beginnings, beginnings_paper
from unsaidsizes.errors import BadSize, NotAChoice, NotAPaper, NotSquare, TooLarge, WrongSize
from unsaidsizes.marks.grids import grid_of
from unsaidsizes.stages.choice import told_choice
from unsaidsizes.stages.good import is_good, tight_table
from unsaidsizes.stages.stages import is_choice

# x' = s y' + t x', y' = u x' + v y: the tight determinant is (1 - t) - s u.
MODEL = (["x", "y"], [("sized", 1, 0, [("s", 1, 1), ("t", 0, 0)], "f"), ("sized", 1, 1, [("u", 1, 0), ("v", 0, 1)], "")])
PAPER = ([], [], [0, 0], [1, 1], [], [0, 1])


def square_models(many, seed=606):
    chance = random.Random(seed)
    found = []
    while len(found) < many:
        n = chance.randint(1, 4)
        model = made_up(chance.randrange(10 ** 6), n, n, chance.choice([0.2, 0.6]), 2, 3, 6, chance.choice([1, 2, 3]))
        if beginnings(grid_of(model)) is not None:
            found.append(model)
    return found


def sizes_in(model):
    return [size for told in model[1] if told[0] == "sized" for size, _, _ in told[3]]


def some_sizes(chance, model):
    """Fractions for all sizes, some of them 0 and alike."""
    numbers = [(0, 1), (1, 1), (-1, 1), (1, 2), (2, 1), (1000, 999), (-7, 1000)]
    return [chance.choice(numbers) for _ in sizes_in(model)]


def slow_determinant(rows):
    rows = [list(row) for row in rows]
    total = Fraction(1)
    for column in range(len(rows)):
        at = next((k for k in range(column, len(rows)) if rows[k][column]), None)
        if at is None:
            return 0
        if at != column:
            rows[column], rows[at] = rows[at], rows[column]
            total = -total
        total *= rows[column][column]
        for k in range(column + 1, len(rows)):
            factor = rows[k][column] / rows[column][column]
            rows[k] = [a - factor * b for a, b in zip(rows[k], rows[column])]
    return total


def slow_table(model, paper, sizes):
    """The last numbers at tight places, the sizes being said."""
    grid = slow_changed(grid_of(model), paper[0])
    known = dict(zip(sizes_in(model), sizes))
    _, _, p, q, _, _ = paper
    table = []
    for i, told in enumerate(model[1]):
        row = []
        for j in range(len(grid)):
            if told[0] == "exact":
                numbers = {k: Fraction(c) for k, c in enumerate(grid[i][1][j]) if c}
            else:
                numbers = {told[1]: Fraction(1)} if told[2] == j else {}
                numbers.update({k: -Fraction(*known[size]) for size, k, own in told[3] if own == j})
            last = max(numbers, default=None)
            row.append(numbers[last] if last is not None and last == q[j] - p[i] else Fraction(0))
        table.append(row)
    return table


def slow_good(table, paper, choice):
    for k, chosen in zip(slow_stages(paper), choice):
        rows, _ = slow_stage(paper, k)
        if slow_determinant([[table[i][j] for j in chosen] for i in rows]) == 0:
            return False
    return slow_determinant(table) != 0


class TestTightTable(unittest.TestCase):
    def test_told(self):
        self.assertEqual(fresh(self, tight_table, MODEL, PAPER, [(2, 3), (5, 1), (-1, 2), (9, 1)]),
                         [[(1, 1), (-2, 3)], [(1, 2), (1, 1)]])
        self.assertEqual(tight_table(MODEL, PAPER, [(0, 1)] * 4), [[(1, 1), (0, 1)], [(0, 1), (1, 1)]])
        self.assertEqual(tight_table(([], []), ([],) * 6, []), [])
        # The tight one of several orders, also if it is 0, or in front.
        model = (["x"], [("sized", 1, 0, [("s", 3, 0), ("t", 0, 0)], "")])
        self.assertEqual(tight_table(model, ([], [], [0], [3], [], [0]), [(3, 4), (1, 1)]), [[(-3, 4)]])
        self.assertEqual(tight_table(model, ([], [], [2], [5], [], [0]), [(0, 1), (1, 1)]), [[(0, 1)]])
        model = (["x"], [("sized", 2, 0, [("s", 1, 0)], "")])
        self.assertEqual(tight_table(model, ([], [], [0], [2], [], [0]), [(3, 4)]), [[(1, 1)]])

    def test_changed_rows(self):
        model = (["x", "y"], [("exact", [(1, 1, 0), (1, 1, 1)], ""), ("exact", [(1, 0, 0), (1, 1, 0), (1, 1, 1)], "")])
        paper = ([[[1], []], [[-1], [1]]], [[[1], []], [[1], [1]]], [0, 1], [1, 1], [0, 1], [])
        self.assertEqual(tight_table(model, paper, []), [[(1, 1), (1, 1)], [(1, 1), (0, 1)]])
        more = ([[[10 ** 40], []], [[-10 ** 40], [10 ** 40]]],) + paper[1:]
        self.assertEqual(tight_table(model, more, []), [[(10 ** 40, 1)] * 2, [(10 ** 40, 1), (0, 1)]])

    def test_made_up(self):
        chance = random.Random(6061)
        good = set()
        for model in square_models(150):
            grid = grid_of(model)
            for paper in papers(chance, grid):
                sizes = some_sizes(chance, model)
                table = slow_table(model, paper, sizes)
                told = [[(one.numerator, one.denominator) for one in row] for row in table]
                self.assertEqual(fresh(self, tight_table, model, paper, sizes), told)
                jets = [(j, order) for j in range(len(grid)) for order in range(4)]
                choice = told_choice(grid, paper, chance.sample(jets, len(jets)))
                answer = fresh(self, is_good, model, paper, choice, sizes)
                self.assertIs(answer, slow_good(table, paper, choice))
                good.add((answer, slow_determinant(table) != 0))
                if answer:
                    # Good sizes are ordinary: the said grid has as many free beginnings.
                    said = said_by_hand(model, sizes)
                    self.assertEqual(slow_beginnings(said), beginnings(grid))
        self.assertLessEqual({(True, True), (False, False), (False, True)}, good)


def said_by_hand(model, sizes):
    """The grid of the laws with the said sizes, times a number that makes all integers."""
    known = dict(zip(sizes_in(model), sizes))
    grid = []
    for told, (kind, row) in zip(model[1], grid_of(model)):
        if kind == "exact":
            grid.append((kind, row))
            continue
        numbers = {(told[1], told[2]): Fraction(1)}
        numbers.update({(k, j): -Fraction(*known[size]) for size, k, j in told[3]})
        below = 1
        for one in numbers.values():
            below *= one.denominator
        rows = [[int(numbers.get((k, j), 0) * below) for k in range(4)] for j in range(len(row))]
        for one in rows:
            while one and one[-1] == 0:
                one.pop()
        grid.append(("exact", rows))
    return grid


class TestIsGood(unittest.TestCase):
    def test_told(self):
        choice = [[]]
        for sizes, told in (([(0, 1)] * 4, True), ([(1, 1)] * 4, False), ([(2, 1), (1, 1), (1, 2), (0, 1)], False),
                            ([(2, 1), (1, 1), (1, 3), (0, 1)], True), ([(-1, 1), (1, 1), (1, 1), (1, 1)], True)):
            self.assertIs(fresh(self, is_good, MODEL, PAPER, choice, sizes), told)
        # Good at the end, but not at a stage: then the size of the chosen column is 0.
        model = (["x", "y"], [("sized", 0, 0, [("s", 0, 1)], ""), ("sized", 1, 0, [("t", 0, 0), ("u", 1, 1)], "")])
        paper = ([], [], [1, 0], [1, 1], [], [0, 1])
        for choice, sizes, told in (([[0]], [(0, 1), (1, 1), (1, 1)], True), ([[1]], [(0, 1), (1, 1), (1, 1)], False),
                                    ([[1]], [(1, 1), (0, 1), (2, 1)], True), ([[1]], [(1, 1), (1, 1), (1, 1)], False),
                                    ([[0]], [(1, 2), (1, 1), (1, 2)], False)):
            self.assertIs(fresh(self, is_good, model, paper, choice, sizes), told, (choice, sizes))
        self.assertIs(is_good(([], []), ([],) * 6, [], []), True)

    def test_order_of_errors(self):
        bad = [(1, 1), (2, 2), (1, 0), (0, 1)]
        fails(self, NotSquare, 2, is_good, (["x"], MODEL[1]), PAPER, [], [])
        fails(self, NotSquare, 2, tight_table, (["x"], MODEL[1]), PAPER, [])
        names, laws = [f"q{k}" for k in range(17)], [("exact", [], "")] * 17
        fails(self, TooLarge, 17, is_good, (names, laws), PAPER, [[9]], [(1, 1)])
        fails(self, TooLarge, 17, tight_table, (names, laws), PAPER, [(1, 1)])
        wrong_paper = PAPER[:3] + ([1, 0],) + PAPER[4:]
        for many in (0, 3, 5, 400):
            for paper in (PAPER, wrong_paper):
                fails(self, WrongSize, many, is_good, MODEL, paper, [[9]], (bad * 100)[:many])
                fails(self, WrongSize, many, tight_table, MODEL, paper, (bad * 100)[:many])
        for k in range(4):
            for size in ((2, 2), (0, 2), (1, 0), (0, 0), (1, -1), (-1, -1), (1001, 1), (-1001, 1), (1, 1001), (4, 6), (1000, 1001),
                         (10 ** 30, 1), (1, 10 ** 30)):
                sizes = [(1000, 1)] * k + [size] + bad[k + 1:]
                for paper in (PAPER, wrong_paper):
                    fails(self, BadSize, k, is_good, MODEL, paper, [[9]], sizes)
                    fails(self, BadSize, k, tight_table, MODEL, paper, sizes)
        fine = [(1000, 999), (-1000, 1), (-999, 1000), (1, 1000)]
        fails(self, NotAPaper, 0, is_good, MODEL, wrong_paper, [[9]], fine)
        fails(self, NotAPaper, 0, tight_table, MODEL, wrong_paper, fine)
        for choice in ([], [[0]], [[], []], [[9]], [[]] * 1000):
            fails(self, NotAChoice, 0, is_good, MODEL, PAPER, choice, fine)
        self.assertIs(is_good(MODEL, PAPER, [[]], fine), True)

    def test_papers_of_the_grid_of_the_model(self):
        for model in square_models(15, 6062):
            grid = grid_of(model)
            paper = raised(beginnings_paper(grid), 1)
            choice = told_choice(grid, paper, [])
            self.assertIs(is_choice(grid, paper, choice), True)
            sizes = [(k + 1, 997) for k in range(len(sizes_in(model)))]
            self.assertIs(is_good(model, paper, choice, sizes), slow_good(slow_table(model, paper, sizes), paper, choice))


if __name__ == "__main__":
    unittest.main()
