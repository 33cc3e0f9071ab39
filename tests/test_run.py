import random
import unittest
from fractions import Fraction

from tests.helpers import fails, fresh
from tests.slow_grids import made_grid, mixed, small_grids
from tests.test_stages import papers, raised
from unsaidsizes.begin.relax import beginnings, beginnings_paper
from unsaidsizes.errors import NotAChoice, NotAPaper, NotExact, OutOfRange, WrongSize
from unsaidsizes.runs.run import keeps, run
from unsaidsizes.runs.said import said_grid
from unsaidsizes.stages.choice import told_choice
from unsaidsizes.stages.stages import beginnings_of, first_stage

# x' = v, v' = -4 x + f
SWING = [("exact", [[0, 1], [-1]]), ("exact", [[4], [0, 1]])]
# y = x', x is the source.
DIFFERENTIATOR = [("exact", [[0, 1], [-1]]), ("exact", [[1], []])]


def pair(number):
    number = Fraction(number)
    return (number.numerator, number.denominator)


def slow_keeps(grid, sources, lists):
    """Point 705, word by word."""
    if len(lists) != len(grid):
        return False
    if grid and (len(lists[0]) < 1 or any(len(one) != len(lists[0]) for one in lists)):
        return False
    h = len(lists[0]) - 1 if grid else 0
    for (_, row), source in zip(grid, sources):
        e = 0
        while True:
            terms = [(c, k + e, j) for j, one in enumerate(row) for k, c in enumerate(one) if c]
            if any(order > h for _, order, _ in terms) or e > 40:
                break
            total = sum(c * Fraction(*lists[j][order]) for c, order, j in terms)
            if total != (Fraction(*source[e]) if e < len(source) else 0):
                return False
            e += 1
    return True


def exact_grids(many, most=4):
    chance = random.Random(706)
    found = [[]]
    while len(found) < many:
        n = chance.randint(1, most)
        degree = chance.choice([0, 1, 2, 3])
        grid = mixed(chance, made_grid(chance, n, 1, chance.choice([0.5, 0.8]), degree, 2), chance.choice([0, 4]), degree=max(degree, 1))
        if beginnings(grid) is not None:
            found.append(grid)
    return found


def some_sources(chance, grid, most=12):
    numbers = [(0, 1), (1, 1), (-1, 2), (3, 1), (10 ** 20, 7)]
    return [[chance.choice(numbers) for _ in range(chance.choice([0, 1, 3, most]))] for _ in grid]


class TestRun(unittest.TestCase):
    def test_found_by_hand(self):
        paper = beginnings_paper(SWING)
        choice = told_choice(SWING, paper, [])
        self.assertEqual(beginnings_of(SWING, paper, choice), [(0, 0), (1, 0)])
        # x = cos 2t, and x = t^2 for the source 2 + 4 t^2.
        told = fresh(self, run, SWING, paper, choice, [[], []], [(1, 1), (0, 1)], 6)
        self.assertEqual(told, [[(n, 1) for n in (1, 0, -4, 0, 16, 0, -64)], [(n, 1) for n in (0, -4, 0, 16, 0, -64, 0)]])
        source = [(2, 1), (0, 1), (8, 1)]
        told = fresh(self, run, SWING, paper, choice, [[], source], [(0, 1), (0, 1)], 5)
        self.assertEqual(told, [[(n, 1) for n in (0, 0, 2, 0, 0, 0)], [(n, 1) for n in (0, 2, 0, 0, 0, 0)]])
        self.assertEqual(run(SWING, paper, choice, [[], []], [(1, 3), (2, 5)], 0), [[(1, 3)], [(2, 5)]])

    def test_derivatives_of_the_source(self):
        paper = beginnings_paper(DIFFERENTIATOR)
        choice = told_choice(DIFFERENTIATOR, paper, [])
        self.assertEqual(beginnings_of(DIFFERENTIATOR, paper, choice), [])
        source = [(k * k + 1, 3) if (k * k + 1) % 3 else (k * k + 1, 1) for k in range(12)]
        for h in range(31):
            told = fresh(self, run, DIFFERENTIATOR, paper, choice, [[], source], [], h)
            longer = source + [(0, 1)] * 40
            self.assertEqual(told, [longer[:h + 1], longer[1:h + 2]])

    def test_changed_sources(self):
        # The sum of the derivatives is told twice: the second row less the first one tells x.
        grid = [("exact", [[0, 1], [0, 1]]), ("exact", [[1, 1], [0, 1]])]
        paper = beginnings_paper(grid)
        for wishes in ([], [(0, 0)], [(1, 0)]):
            choice = told_choice(grid, paper, wishes)
            self.assertEqual(beginnings_of(grid, paper, choice), [(1, 0)])
            one, two = [(1, 1), (2, 1), (3, 1)], [(5, 1), (7, 1)]
            told = run(grid, paper, choice, [one, two], [(9, 1)], 4)
            # x = two - one, y' = one - x'.
            self.assertEqual(told, [[(n, 1) for n in (4, 5, -3, 0, 0)], [(n, 1) for n in (9, -4, 5, 3, 0)]])

    def test_kept(self):
        chance = random.Random(7061)
        for grid in exact_grids(60):
            for paper in papers(chance, grid):
                jets = [(j, order) for j in range(len(grid)) for order in range(4)]
                choice = told_choice(grid, paper, chance.sample(jets, min(len(jets), 3)))
                sources = some_sources(chance, grid)
                free = beginnings_of(grid, paper, choice)
                values = [pair(Fraction(chance.randint(-9, 9), chance.randint(1, 9))) for _ in free]
                h = chance.choice([0, 1, 2, 5, 9])
                told = fresh(self, run, grid, paper, choice, sources, values, h)
                self.assertEqual([len(one) for one in told], [h + 1] * len(grid))
                self.assertIs(keeps(grid, sources, told), True)
                self.assertIs(slow_keeps(grid, sources, told), True)
                for (j, order), value in zip(free, values):
                    if order <= h:
                        self.assertEqual(told[j][order], value)
                for other in {0, h // 2, h + 1, h + 7}:
                    # A shorter run is the beginning of a longer one.
                    short, long = min(other, h), max(other, h)
                    more = run(grid, paper, choice, sources, values, other)
                    self.assertEqual([one[:short + 1] for one in more], [one[:short + 1] for one in told])
                    self.assertLessEqual(h, long)

    def test_one_run_for_all_papers(self):
        chance = random.Random(7062)
        for grid in exact_grids(50):
            paper = beginnings_paper(grid)
            choice = told_choice(grid, paper, [])
            free = beginnings_of(grid, paper, choice)
            sources = some_sources(chance, grid)
            told = run(grid, paper, choice, sources, [(k + 1, 2 * k + 1) for k in range(len(free))], 25)
            for other in papers(chance, grid):
                own = told_choice(grid, other, chance.sample([(j, k) for j in range(len(grid)) for k in range(3)], min(len(grid), 2)))
                values = [told[j][order] for j, order in beginnings_of(grid, other, own)]
                self.assertEqual(run(grid, other, own, sources, values, 25), told)

    def test_linear(self):
        chance = random.Random(7063)
        for grid in exact_grids(40):
            paper = beginnings_paper(grid)
            choice = told_choice(grid, paper, [])
            many = len(beginnings_of(grid, paper, choice))
            sources = [[(chance.randint(-3, 3), 1) for _ in range(12)] for _ in grid]
            one = run(grid, paper, choice, sources, [(k, 1) for k in range(many)], 8)
            two = run(grid, paper, choice, sources, [(0, 1)] * many, 8)
            none = run(grid, paper, choice, [[] for _ in grid], [(k, 1) for k in range(many)], 8)
            self.assertEqual([[pair(Fraction(*a) - Fraction(*b)) for a, b in zip(p, q)] for p, q in zip(one, two)], none)

    def test_great_grids_and_numbers(self):
        chance = random.Random(7064)
        for n, number in ((8, 5), (16, 3), (16, 1000000)):
            grid = [("exact", [[]])]
            while beginnings(grid) is None:
                grid = mixed(chance, made_grid(chance, n, 1, 0.3, 2, number), 10 if number < 10 else 0)
            paper = beginnings_paper(grid)
            choice = told_choice(grid, paper, [])
            values = [(10 ** 40 + k, 7) if (10 ** 40 + k) % 7 else (k, 1) for k in range(beginnings(grid))]
            sources = some_sources(chance, grid)
            told = run(grid, paper, choice, sources, values, 6)
            self.assertIs(keeps(grid, sources, told), True)

    def test_many_stages(self):
        paper = raised(beginnings_paper(SWING), 998)
        self.assertEqual(first_stage(SWING, paper), -999)
        choice = told_choice(SWING, paper, [])
        told = run(SWING, paper, choice, [[], []], [(1, 1), (0, 1)], 30)
        self.assertEqual(told[0], [pair(0 if k % 2 else (-4) ** (k // 2)) for k in range(31)])

    def test_said_grids(self):
        model = (["x", "v"], [("sized", 1, 0, [("s", 0, 1)], ""), ("sized", 1, 1, [("t", 0, 0), ("u", 0, 1)], "f")])
        grid, factors = said_grid(model, [(1, 2), (-2, 3), (1, 5)])
        self.assertEqual(factors, [2, 15])
        paper = beginnings_paper(grid)
        choice = told_choice(grid, paper, [])
        # The factor of the row belongs to the source.
        source = [(15, 1)]
        told = run(grid, paper, choice, [[], source], [(3, 1), (4, 1)], 2)
        self.assertEqual([one[:2] for one in told], [[(3, 1), (2, 1)], [(4, 1), pair(Fraction(-2, 3) * 3 + Fraction(4, 5) + 1)]])

    def test_order_of_errors(self):
        sized = [SWING[0], ("sized", [[0], [1]])]
        paper = beginnings_paper(SWING)
        choice = told_choice(SWING, paper, [])
        wrong_paper = paper[:2] + ([0, 9],) + paper[3:]
        long = [(1, 1)] * 13
        fails(self, NotExact, 1, run, sized, wrong_paper, [[9]], [], [], -1)
        fails(self, NotExact, 0, run, [("sized", [[0], []]), ("sized", [[], [0]])], wrong_paper, [[9]], [], [], -1)
        fails(self, NotAPaper, 0, run, SWING, wrong_paper, [[9]], [], [], -1)
        for wrong in ([], [[9]], [[0]], [[], []]):
            fails(self, NotAChoice, 0, run, SWING, paper, wrong, [], [], -1)
        for many in (0, 1, 3, 50):
            fails(self, WrongSize, many, run, SWING, paper, choice, [long] * many, [], -1)
        fails(self, OutOfRange, 0, run, SWING, paper, choice, [long, long], [], -1)
        fails(self, OutOfRange, 1, run, SWING, paper, choice, [long[:12], long], [], -1)
        for many in (0, 1, 3, 60):
            fails(self, WrongSize, many, run, SWING, paper, choice, [long[:12], []], [(1, 1)] * many, -1)
        for h in (-1, 31, 10 ** 30, -(10 ** 30)):
            fails(self, OutOfRange, h, run, SWING, paper, choice, [long[:12], []], [(1, 1)] * 2, h)
        for h in (0, 30):
            self.assertEqual(len(run(SWING, paper, choice, [long[:12], []], [(1, 1)] * 2, h)[1]), h + 1)

    def test_empty_grid(self):
        paper = ([], [], [], [], [], [])
        for h in (0, 30):
            self.assertEqual(fresh(self, run, [], paper, [], [], [], h), [])
        fails(self, NotAChoice, 0, run, [], paper, [[]], [], [], 0)
        fails(self, WrongSize, 1, run, [], paper, [], [[]], [], 0)
        fails(self, WrongSize, 1, run, [], paper, [], [], [(1, 1)], 0)
        fails(self, OutOfRange, 31, run, [], paper, [], [], [], 31)


class TestKeeps(unittest.TestCase):
    def test_told(self):
        right = [[(1, 1), (0, 1), (-4, 1), (0, 1)], [(0, 1), (-4, 1), (0, 1), (16, 1)]]
        self.assertIs(fresh(self, keeps, SWING, [[], []], right), True)
        for j in range(2):
            for k in range(4):
                wrong = [list(one) for one in right]
                wrong[j][k] = (wrong[j][k][0] + 1, 2) if wrong[j][k][0] % 2 == 0 else (wrong[j][k][0] + 1, 3)
                self.assertIs(keeps(SWING, [[], []], wrong), False)
        # With h = 0 nothing is tested here, as each row has a derivative.
        self.assertIs(keeps(SWING, [[(7, 1)], [(9, 1)]], [[(1, 1)], [(5, 1)]]), True)
        for wrong in ([], right[:1], right + right[:1], [right[0][:3], right[1]], [right[0], right[1][:3]], [[], []],
                      [right[0], []], [[], right[1]], [right[0] + [(16, 1)], right[1]], right * 30):
            self.assertIs(fresh(self, keeps, SWING, [[], []], wrong), False)
        self.assertIs(keeps(SWING, [[], []], [one[:2] for one in right]), True)

    def test_sources_are_0_behind_their_end(self):
        grid = [("exact", [[1]])]
        self.assertIs(keeps(grid, [[(5, 1)]], [[(5, 1), (0, 1), (0, 1)]]), True)
        self.assertIs(keeps(grid, [[(5, 1)]], [[(5, 1), (0, 1), (1, 1)]]), False)
        self.assertIs(keeps(grid, [[(5, 1), (0, 1), (2, 3)]], [[(5, 1), (0, 1), (2, 3), (0, 1)]]), True)
        self.assertIs(keeps(grid, [[(5, 1), (0, 1), (2, 3)]], [[(5, 1), (0, 1)]]), True)
        self.assertIs(keeps(grid, [[]], [[(0, 1)] * 60]), True)
        self.assertIs(keeps(grid, [[(1, 1)] * 12], [[(1, 1)] * 12 + [(0, 1)] * 9]), True)
        self.assertIs(keeps(grid, [[(1, 1)] * 12], [[(1, 1)] * 13]), False)

    def test_rows_without_places(self):
        # Such a grid is not full, but can be asked all the same.
        grid = [("exact", [[], []]), ("exact", [[1], []])]
        lists = [[(0, 1)], [(3, 1)]]
        self.assertIs(keeps(grid, [[], []], lists), True)
        self.assertIs(keeps(grid, [[(0, 1)] * 12, []], lists), True)
        # All orders of the source, also those above h.
        self.assertIs(keeps(grid, [[(1, 1)], []], lists), False)
        self.assertIs(keeps(grid, [[(0, 1)] * 11 + [(1, 2)], []], lists), False)
        self.assertIs(keeps(grid, [[], [(0, 1), (1, 1)]], lists), True)

    def test_empty_grid(self):
        self.assertIs(keeps([], [], []), True)
        self.assertIs(keeps([], [], [[]]), False)
        self.assertIs(keeps([], [], [[(1, 1)]]), False)
        fails(self, WrongSize, 1, keeps, [], [[]], [])

    def test_errors(self):
        sized = [SWING[0], ("sized", [[0], [1]])]
        long = [(1, 1)] * 13
        fails(self, NotExact, 1, keeps, sized, [], [])
        for many in (0, 1, 3):
            fails(self, WrongSize, many, keeps, SWING, [long] * many, [])
        fails(self, OutOfRange, 0, keeps, SWING, [long, long], [])
        fails(self, OutOfRange, 1, keeps, SWING, [long[:12], long], [])
        self.assertIs(keeps(SWING, [long[:12], []], []), False)

    def test_made_up(self):
        chance = random.Random(705)
        both = set()
        for grid in [one for one in small_grids(200) if all(kind == "exact" for kind, _ in one)] + exact_grids(60):
            for _ in range(4):
                sources = some_sources(chance, grid, 2)
                if beginnings(grid) is not None and chance.random() < 0.7:
                    paper = beginnings_paper(grid)
                    choice = told_choice(grid, paper, [])
                    lists = run(grid, paper, choice, sources, [(1, 1)] * beginnings(grid), chance.randint(0, 5))
                else:
                    h = chance.choice([0, 0, 1, 3])
                    lists = [[(0, 1) for _ in range(h + 1)] for _ in grid]
                if lists and chance.random() < 0.5:
                    own = chance.choice(lists)
                    own[chance.randrange(len(own))] = (chance.randint(-2, 2), 1)
                told = slow_keeps(grid, sources, lists)
                both.add(told)
                self.assertIs(fresh(self, keeps, grid, sources, lists), told)
        self.assertEqual(both, {True, False})

    def test_numbers_of_any_size(self):
        grid = [("exact", [[3, 2]])]
        one = (10 ** 300 + 1, 7)
        two = pair(Fraction(1 - 3 * (10 ** 300 + 1), 14))
        self.assertIs(keeps(grid, [[(1, 7)]], [[one, two]]), True)
        self.assertIs(keeps(grid, [[(1, 7)]], [[one, (two[0] + two[1], two[1])]]), False)


if __name__ == "__main__":
    unittest.main()
