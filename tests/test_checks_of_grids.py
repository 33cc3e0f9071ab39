"""As test_checks, for blocks, grids, beginnings, depths and choices."""

import random
import time
import unittest

from tests.helpers import fresh, small_models
from tests.slow_grids import small_grids
from tests.test_checks import Junk
from unsaidsizes.begin.depth import check_depth, depth, depth_paper
from unsaidsizes.begin.relax import beginnings, beginnings_paper, check_beginnings
from unsaidsizes.blocks.blocks import check_parts, is_least, parts, parts_paper
from unsaidsizes.blocks.hangs import check_hangs, check_rests, hangs, hangs_paper, rests_paper
from unsaidsizes.blocks.tied import check_loose, check_tied, loose
from unsaidsizes.errors import NotFull
from unsaidsizes.marks.marks import is_marks, is_regular, least_marks
from unsaidsizes.ranks.papers import rank_paper
from unsaidsizes.runs.ratios import is_ratio
from unsaidsizes.stages.choice import check_choice, choice_paper, told_choice
from unsaidsizes.stages.stages import is_choice


class GridJunk(Junk):
    def tables(self):
        return [self.lists() for _ in range(self.chance.choice([0, 1, 2, 3]))]

    def triples_of_lists(self):
        return [(self.numbers(), self.numbers(), self.lists()) for _ in range(self.chance.choice([0, 1, 2, 3]))]

    def of_paper(self, paper):
        kinds = (self.tables, self.tables, self.numbers, self.numbers, self.numbers, self.numbers)
        return tuple(self.mixed(good, kind) for good, kind in zip(paper, kinds))


class TestJunk(unittest.TestCase):
    def test_tied_and_least(self):
        for seed, model in enumerate(small_models(40)):
            junk = GridJunk(seed)
            known = loose(model)
            for _ in range(25):
                paper = tuple(junk.mixed(good, kind) for good, kind in zip(
                    rank_paper(model), (junk.numbers, junk.numbers, junk.pairs, junk.numbers)))
                j = junk.number()
                tied_told = fresh(self, check_tied, model, j, paper)
                loose_told = fresh(self, check_loose, model, j, paper)
                self.assertTrue(tied_told is False or (0 <= j < len(model[0]) and j not in known))
                self.assertTrue(loose_told is False or j in known)
                self.assertIn(fresh(self, is_least, model, junk.numbers()), (True, False))

    def test_parts(self):
        for seed, model in enumerate(small_models(40)):
            junk = GridJunk(seed)
            right, paper = parts(model), parts_paper(model)
            for _ in range(25):
                told = tuple(junk.mixed(good, kind) for good, kind in zip(right, (junk.numbers, junk.lists, junk.numbers)))
                other = tuple(junk.mixed(good, kind) for good, kind in zip(
                    paper, (junk.numbers, junk.numbers, junk.pairs, junk.pairs, junk.pairs, junk.lists)))
                accepted = fresh(self, check_parts, model, told, other)
                self.assertTrue(accepted is False or told == right)

    def test_hangs(self):
        for seed, model in enumerate(small_models(80)):
            junk = GridJunk(seed)
            try:
                told = hangs(model)
            except NotFull:
                told = None
            rows, columns, pairs, poor = rank_paper(model)
            for _ in range(20):
                j, i = junk.number(), junk.number()
                paper = tuple(junk.mixed(good, kind) for good, kind in zip(
                    (rows, columns, pairs, poor), (junk.numbers, junk.numbers, junk.pairs, junk.numbers)))
                one = fresh(self, check_rests, model, j, i, paper)
                two = fresh(self, check_hangs, model, j, i, paper + (junk.numbers(),))
                three = fresh(self, check_hangs, model, j, i, paper + ([j],))
                self.assertTrue(one is False or j not in told[i])
                self.assertTrue(two is False or j in told[i])
                self.assertTrue(three is False or j in told[i])

    def test_marks(self):
        for seed, grid in enumerate(small_grids(60)):
            junk = GridJunk(seed)
            marks = least_marks(grid)
            for _ in range(20):
                p, q = junk.mixed(marks[0] if marks else [], junk.numbers), junk.mixed(marks[1] if marks else [], junk.numbers)
                right = fresh(self, is_marks, grid, p, q)
                self.assertIn(right, (True, False))
                if right:
                    self.assertIn(fresh(self, is_regular, grid, p, q, junk.numbers(), junk.numbers()), (True, False))

    def test_beginnings_and_depths(self):
        for seed, grid in enumerate(small_grids(80)):
            junk = GridJunk(seed)
            number = beginnings(grid)
            paper = beginnings_paper(grid) or ([], [], [], [], [], [])
            for _ in range(20):
                told = junk.mixed(number or 0, junk.number)
                other = junk.of_paper(paper)
                accepted = fresh(self, check_beginnings, grid, told, other)
                self.assertTrue(accepted is False or told == number)
                if grid and number is not None:
                    i, j = junk.chance.randrange(len(grid)), junk.chance.randrange(len(grid))
                    rest = depth_paper(grid, i, j)
                    pair = (junk.of_paper(rest[0] if rest else paper), other)
                    deep = depth(grid, i, j)
                    told = junk.mixed(deep or 0, junk.number)
                    self.assertTrue(fresh(self, check_depth, grid, i, j, told, pair) is False or told == deep)

    def test_choices(self):
        for seed, grid in enumerate(small_grids(80)):
            junk = GridJunk(seed)
            paper = beginnings_paper(grid)
            if paper is None:
                continue
            right = told_choice(grid, paper, [])
            shown = choice_paper(grid, paper, [])
            for _ in range(20):
                choice = junk.mixed(right, junk.lists)
                self.assertIn(fresh(self, is_choice, grid, paper, choice), (True, False))
                own = junk.mixed(shown, junk.triples_of_lists)
                if own and junk.chance.random() < 0.5:
                    own = [(junk.mixed(a, junk.numbers), junk.mixed(b, junk.numbers), junk.mixed(c, junk.lists)) for a, b, c in own]
                accepted = fresh(self, check_choice, grid, paper, [], choice, own)
                self.assertTrue(accepted is False or choice == right)

    def test_ratios(self):
        junk = GridJunk(1)
        for pair in junk.pairs() * 3 + [(junk.number(), junk.number()) for _ in range(300)]:
            self.assertIn(is_ratio(pair), (True, False))


class TestLongLists(unittest.TestCase):
    def setUp(self):
        self.begun = time.monotonic()

    def tearDown(self):
        self.assertLess(time.monotonic() - self.begun, 60)

    def test_of_models(self):
        model = (["a", "b"], [("exact", [(1, 0, 0), (1, 1, 1)], ""), ("sized", 0, 1, [("s", 0, 0)], "")])
        rows, columns, pairs, poor = rank_paper(model)
        told, paper = parts(model), parts_paper(model)
        hanging = hangs_paper(model, 0, 0)
        for long in ([0] * 100000, list(range(100000)), [10 ** 30] * 100000, [-1] * 100000):
            twos = [(k, k) for k in long]
            self.assertIs(is_least(model, long), False)
            self.assertIs(check_tied(model, 0, (rows, columns, pairs, long)), False)
            self.assertIs(check_loose(model, 0, (long, long, twos, poor)), False)
            for at, wrong in enumerate((long, long, twos, twos, twos, [long] * 2)):
                self.assertIs(check_parts(model, told, paper[:at] + (wrong,) + paper[at + 1:]), False)
            for at, wrong in enumerate((long, [long], long)):
                self.assertIs(check_parts(model, told[:at] + (wrong,) + told[at + 1:], paper), False)
            self.assertIs(check_parts(model, ([], [[k] for k in long], []), paper[:5] + ([[k] for k in long],)), False)
            for at, wrong in enumerate((long, long, twos, long, long)):
                self.assertIs(check_hangs(model, 0, 0, hanging[:at] + (wrong,) + hanging[at + 1:]), False)
                self.assertIs(check_rests(model, 0, 0, hanging[:at] + (wrong,) + hanging[at + 1:4] if at < 4 else hanging[:4]), False)
        # A walk may be long.
        self.assertIs(check_parts(model, told, paper), True)
        ring = (["a", "b"], [("sized", 0, 0, [("s", 0, 1)], ""), ("sized", 0, 1, [("t", 0, 0)], "")])
        self.assertIs(check_parts(ring, parts(ring), parts_paper(ring)[:5] + ([[0, 1] * 50000 + [0]],)), True)
        single = (["a", "b"], [("exact", [(1, 0, 0)], ""), ("sized", 0, 1, [("t", 0, 0)], "")])
        self.assertIs(check_rests(single, 0, 1, rests_paper(single, 0, 1)), True)

    def test_of_grids(self):
        grid = [("exact", [[0, 1], [0, 1]]), ("exact", [[1, 1], [0, 1]])]
        paper = beginnings_paper(grid)
        choice, shown = told_choice(grid, paper, []), choice_paper(grid, paper, [])
        deep = depth_paper(grid, 0, 0)
        for long in ([0] * 100000, list(range(100000)), [10 ** 30] * 100000, [-1] * 100000):
            lists = [long] * 2
            tables = [[long, long], [long, long]]
            self.assertIs(is_marks(grid, long, long), False)
            self.assertIs(is_regular(grid, [0, 0], [1, 1], long, long), False)
            for at, wrong in enumerate((tables, tables, long, long, long, long)):
                other = paper[:at] + (wrong,) + paper[at + 1:]
                self.assertIs(check_beginnings(grid, sum(other[3]) - sum(other[2]), other), False)
                number = sum(deep[0][3]) - sum(deep[0][2]) - sum(other[3]) + sum(other[2])
                self.assertIs(check_depth(grid, 0, 0, number, (deep[0], other)), False)
            self.assertIs(check_beginnings(grid, 1, ([lists], [lists]) + paper[2:]), False)
            self.assertIs(check_beginnings(grid, 1, ([[[1]] * 100000] * 2, paper[1]) + paper[2:]), False)
            self.assertIs(is_choice(grid, paper, [long]), False)
            self.assertIs(is_choice(grid, paper, [long] * 1000), False)
            for wrong in ((long, [], []), ([], long, []), ([], [], lists), ([0], [], [long])):
                self.assertIs(check_choice(grid, paper, [], choice, [wrong]), False)
            self.assertIs(check_choice(grid, paper, [], [long], shown), False)


if __name__ == "__main__":
    unittest.main()
