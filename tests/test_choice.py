import random
import unittest

from tests.helpers import fails, fresh, mutated
from tests.slow_grids import (
    made_grid, mixed, slow_number_determinant, slow_strength, slow_tight)
from tests.test_beginnings import slow_changed
from tests.test_stages import full_grids, papers, raised, slow_choices, slow_stage, slow_stages
from unsaidsizes.begin.relax import beginnings, beginnings_paper
from unsaidsizes.errors import BadWish, NotAPaper
from unsaidsizes.stages.choice import check_choice, choice_paper, told_choice
from unsaidsizes.stages.stages import beginnings_of, is_choice

FILLERS = {k: [0, 0, 0] for k in range(30)}

# x'' + y'' and x' - y are told: any two of x, x', y can be given that go together.
GRID = [("exact", [[1, 0, 1], [0, 0, 1]]), ("exact", [[0, 1], [-1]])]


def some_wishes(chance, grid, paper):
    """Wishes of all, of some and of no jets, also beyond all stages."""
    jets = [(j, order) for j in range(len(grid)) for order in range(max([0] + paper[3]) + 2)]
    yield []
    yield chance.sample(jets, len(jets))
    for _ in range(3):
        yield chance.sample(jets, chance.randint(0, len(jets)))
    yield chance.sample(jets, min(len(jets), 2)) + [(j, 10 ** 30) for j in range(len(grid))]


def slow_order(grid, paper, wishes, k):
    """Point 604: the columns of a stage in the order of their wishes."""
    columns = slow_stage(paper, k)[1]
    wished = [j for j, order in wishes if order - paper[3][j] == k]
    return wished + [j for j in columns if j not in wished]


def slow_check(grid, paper, wishes, choice, shown):
    """Point 605, word by word."""
    stages = slow_stages(paper)
    if len(choice) != len(stages) or len(shown) != len(stages):
        return False
    now = slow_changed(grid, paper[0])
    tight = slow_tight(now, paper[2], paper[3])
    for k, chosen, (own, places, sets) in zip(stages, choice, shown):
        rows, columns = slow_stage(paper, k)
        if chosen != sorted(set(chosen)) or len(chosen) != len(rows) or not set(chosen) <= set(columns):
            return False
        exact = [i for i in rows if grid[i][0] == "exact"]
        sized = [i for i in rows if grid[i][0] == "sized"]
        if own != sorted(set(own)) or len(own) != len(exact) or not set(own) <= set(chosen):
            return False
        if slow_number_determinant([[tight[i][j] for j in own] for i in exact]) == 0:
            return False
        if len(places) != len(sized) or len(set(places)) < len(places) or set(places) & set(own):
            return False
        if not set(places) <= set(chosen) or not all(j in tight[i] for i, j in zip(sized, places)):
            return False
        if len(sets) != len(chosen):
            return False
        order = slow_order(grid, paper, wishes, k)
        for j, one in zip(chosen, sets):
            dearer = [other for other in order[:order.index(j)] if other not in chosen]
            rest = [other for other in columns if other != j and other not in dearer]
            if one != sorted(set(one)) or not set(one) <= set(rest):
                return False
            if slow_strength(now, tight, rows, one) + len(rest) - len(one) >= len(rows):
                return False
    return True


class TestTold(unittest.TestCase):
    def test_told(self):
        paper = beginnings_paper(GRID)
        self.assertEqual(beginnings(GRID), 3)
        self.assertIs(is_choice(GRID, paper, fresh(self, told_choice, GRID, paper, [])), True)
        for wishes in ([], [(0, 0)], [(1, 0), (0, 0)], [(1, 1), (1, 0), (0, 0), (0, 1)], [(0, 1), (1, 1)]):
            choice = told_choice(GRID, paper, wishes)
            jets = beginnings_of(GRID, paper, choice)
            self.assertEqual(len(jets), 3)
        self.assertEqual(told_choice([], ([], [], [], [], [], []), []), [])
        self.assertEqual(choice_paper([], ([], [], [], [], [], []), []), [])
        self.assertIs(check_choice([], ([], [], [], [], [], []), [], [], []), True)
        self.assertIs(check_choice([], ([], [], [], [], [], []), [], [[]], []), False)
        self.assertIs(check_choice([], ([], [], [], [], [], []), [], [], [([], [], [])]), False)

    def test_wishes_decide(self):
        # One law for three quantities at a stage: the ones that are wished first are left free.
        grid = [("exact", [[1], [1], [1]]), ("sized", [[1], [], []]), ("sized", [[], [1], []])]
        paper = ([[[1]]], [[[1]]], [1, 0, 0], [1, 1, 1], [2], [0, 1])
        self.assertEqual(told_choice(grid, paper, []), [[2]])
        for wishes, chosen in (([(2, 0)], 1), ([(2, 0), (1, 0)], 0), ([(1, 0), (2, 0), (0, 0)], 0), ([(0, 0), (2, 0)], 1),
                               ([(2, 1), (0, 0), (1, 0)], 2), ([(2, 5), (2, 0), (0, 7), (1, 0)], 0), ([(1, 0)], 2)):
            self.assertEqual(fresh(self, told_choice, grid, paper, wishes), [[chosen]])
        self.assertEqual(beginnings_of(grid, paper, told_choice(grid, paper, [(2, 0)])), [(0, 0), (2, 0)])

    def test_all_choices(self):
        chance = random.Random(604)
        several = 0
        for grid in full_grids(70):
            for paper in papers(chance, grid):
                everything = slow_choices(grid, paper)
                for wishes in some_wishes(chance, grid, paper):
                    told = fresh(self, told_choice, grid, paper, wishes)
                    self.assertEqual(len(told), len(everything))
                    for k, own, known in zip(slow_stages(paper), told, everything):
                        order = slow_order(grid, paper, wishes, k)
                        self.assertIn(own, known)
                        several += len(known) > 1
                        free = [place for place, j in enumerate(order) if j not in own]
                        for other in known:
                            rest = [place for place, j in enumerate(order) if j not in other]
                            self.assertTrue(all(one <= two for one, two in zip(free, rest)))
        self.assertGreater(several, 100)

    def test_bad_wishes(self):
        paper = beginnings_paper(GRID)
        wrong_paper = paper[:2] + ([5, 5],) + paper[3:]
        for wishes, at in (([(2, 0)], 0), ([(-1, 0)], 0), ([(0, -1)], 0), ([(0, 0), (0, 0)], 1), ([(0, 0), (1, 2), (1, -2)], 2),
                           ([(0, 0), (0, 1), (1, 0), (0, 1)], 3), ([(1, 5), (10 ** 30, 0)], 1), ([(0, 10 ** 30)] * 2, 1),
                           ([(0, -(10 ** 30))], 0), ([(0, 0), (2, -1), (5, 5)], 1)):
            for function, more in ((told_choice, ()), (choice_paper, ()), (check_choice, ([], []))):
                fails(self, BadWish, at, function, GRID, paper, wishes, *more)
                fails(self, NotAPaper, 0, function, GRID, wrong_paper, wishes, *more)
        fails(self, BadWish, 0, told_choice, [], ([], [], [], [], [], []), [(0, 0)])

    def test_great_grids(self):
        chance = random.Random(6041)
        for n in (8, 12, 16, 16):
            grid = [("exact", [[]])]
            while beginnings(grid) is None or beginnings(grid) == 0:
                grid = mixed(chance, made_grid(chance, n, 0.7, 0.5, 2, 50), 40)
            paper = raised(beginnings_paper(grid), chance.randint(0, 2))
            wishes = [(j, order) for j in range(n) for order in range(4)]
            chance.shuffle(wishes)
            for own in (wishes, wishes[:5], []):
                choice = told_choice(grid, paper, own)
                self.assertIs(is_choice(grid, paper, choice), True)
                shown = choice_paper(grid, paper, own)
                self.assertIs(check_choice(grid, paper, own, choice, shown), True)
                self.assertEqual(len(beginnings_of(grid, paper, choice)), beginnings(grid))

    def test_many_stages(self):
        paper = raised(beginnings_paper(GRID), 990)
        wishes = [(j, order) for order in range(994) for j in (1, 0)]
        choice = told_choice(GRID, paper, wishes)
        self.assertIs(is_choice(GRID, paper, choice), True)
        self.assertIs(check_choice(GRID, paper, wishes, choice, choice_paper(GRID, paper, wishes)), True)
        self.assertEqual(len(beginnings_of(GRID, paper, choice)), 3)


class TestPapers(unittest.TestCase):
    def test_told(self):
        chance = random.Random(605)
        for grid in full_grids(70):
            for paper in papers(chance, grid):
                for wishes in some_wishes(chance, grid, paper):
                    choice = told_choice(grid, paper, wishes)
                    shown = fresh(self, choice_paper, grid, paper, wishes)
                    self.assertIs(fresh(self, check_choice, grid, paper, wishes, choice, shown), True)
                    self.assertIs(slow_check(grid, paper, wishes, choice, shown), True)

    def test_other_choices_are_refused(self):
        chance = random.Random(6051)
        refused = 0
        for grid in full_grids(60):
            paper = raised(beginnings_paper(grid), 1)
            everything = slow_choices(grid, paper)
            for wishes in some_wishes(chance, grid, paper):
                told = told_choice(grid, paper, wishes)
                for at, own in enumerate(everything):
                    for other in own:
                        # The paper of wishes for which the other choice is told, as far as it goes.
                        free = [j for j in slow_stage(paper, slow_stages(paper)[at])[1] if j not in other]
                        jets = [(j, paper[3][j] + slow_stages(paper)[at]) for j in free]
                        shown = choice_paper(grid, paper, jets)
                        choice = told_choice(grid, paper, jets)
                        self.assertEqual(choice[at], other)
                        right = slow_check(grid, paper, wishes, choice, shown)
                        self.assertIs(check_choice(grid, paper, wishes, choice, shown), right)
                        self.assertTrue(not right or choice == told)
                        refused += choice != told
        self.assertGreater(refused, 100)

    def test_one_thing_changed(self):
        chance = random.Random(6052)
        refused = accepted = 0
        for grid in full_grids(90):
            paper = raised(beginnings_paper(grid), chance.randint(0, 1))
            for wishes in some_wishes(chance, grid, paper):
                told = told_choice(grid, paper, wishes)
                choice, shown = told, choice_paper(grid, paper, wishes)
                for _ in range(3):
                    other, own = choice, shown
                    if chance.random() < 0.25:
                        other = mutated(chance, choice, FILLERS)
                    else:
                        own = mutated(chance, shown, FILLERS)
                    if any(len(one) != 3 for one in own):
                        continue
                    right = slow_check(grid, paper, wishes, other, own)
                    self.assertIs(fresh(self, check_choice, grid, paper, wishes, other, own), right, (grid, paper, wishes, other, own))
                    self.assertTrue(not right or other == told)
                    refused += not right
                    accepted += right
        self.assertGreater(refused, 700)
        self.assertGreater(accepted, 20)

    def test_each_condition_alone(self):
        grid = [("exact", [[1], [1], [1], [], [2]]), ("sized", [[1], [], [], [], []]), ("sized", [[], [1], [], [], []]),
                ("sized", [[], [], [], [0], []]), ("sized", [[], [], [], [], [1]])]
        paper = ([[[1]]], [[[1]]], [1, 0, 0, 1, 0], [1, 1, 1, 1, 1], [2], [0, 1, 3, 4])
        self.assertEqual(beginnings(grid), 3)
        wishes = [(1, 0), (3, 0)]
        # d cannot be free, as one row has it alone. So b, a and c are, and the first row takes e.
        choice = [[3, 4]]
        self.assertEqual(told_choice(grid, paper, wishes), choice)
        good = [([4], [3], [[0, 2, 4], []])]

        def check(choice=choice, shown=good, wishes=wishes):
            answer = fresh(self, check_choice, grid, paper, wishes, choice, shown)
            self.assertIs(answer, slow_check(grid, paper, wishes, choice, shown))
            return answer
        self.assertIs(check(), True)
        self.assertIs(check(shown=[([4], [3], [[0, 2, 4], [3]])]), True)
        for wrong in ([], [[]], [[3]], [[4, 3]], [[3, 3]], [[3, 4, 4]], [[2, 3]], [[1, 4]], [[3, 5]], [[-1, 4]], [[3, 4], []],
                      [[3, 10 ** 30]], [[0, 3]], [[0, 1, 2, 3, 4]]):
            self.assertIs(check(choice=wrong), False, wrong)
        for wrong in ([], [3], [0], [4, 4], [2], [9], [-1], [10 ** 30], [3, 4]):
            self.assertIs(check(shown=[(wrong, [3], good[0][2])]), False)
        for wrong in ([], [4], [0], [2], [3, 3], [9], [-2], [3, 0]):
            self.assertIs(check(shown=[([4], wrong, good[0][2])]), False)
        for wrong in ([], [[0, 2, 4]], [[0, 2, 4], [], []], [[], [0, 2, 4]], [[0, 2], []], [[0, 4], []], [[0, 1, 2, 4], []],
                      [[0, 2, 3, 4], []], [[2, 0, 4], []], [[0, 2, 2, 4], []], [[0, 2, 4], [3, 4]], [[0, 2, 4], [0]], [[0, 2, 4], [4]],
                      [[0, 2, 4], [3, 3]], [[0, 2, 4, 5], []], [[-1, 0, 2, 4], []], [[0, 2, 4], [10 ** 30]], [[0, 2, 4], [9]]):
            self.assertIs(check(shown=[([4], [3], wrong)]), False, wrong)
        for wrong in ([], good * 2):
            self.assertIs(check(shown=wrong), False)
        # For other wishes other columns are dearer.
        for other, told in (([(1, 0), (3, 0), (2, 0)], True), ([(3, 0)], False), ([], False), ([(4, 0)], False), ([(1, 0)], False),
                            ([(1, 0), (4, 7), (3, 0), (4, 1)], True), ([(1, 1), (3, 0)], False), ([(1, 0), (3, 0), (4, 0)], False)):
            self.assertIs(check(wishes=other), told, other)


if __name__ == "__main__":
    unittest.main()
