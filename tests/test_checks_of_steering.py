"""As test_checks, for factors, steering, watching and groups."""

import random
import unittest

from tests.helpers import fresh
from tests.slow_steer import FACTORS, common_grids, steered_models
from tests.slow_values import square_models
from tests.test_checks_of_grids import GridJunk
from unsaidsizes.errors import NotASet, NotFull
from unsaidsizes.ranks.assign import rank
from unsaidsizes.steer.factor import are_weights, check_factor, exact_factor, factor_paper, is_arrangement
from unsaidsizes.steer.steering import check_steering, steering, steering_paper
from unsaidsizes.steer.watching import check_watching, watching, watching_paper
from unsaidsizes.values.groups import check_groups, groups, groups_paper

NO_PAPER = ([], [], [], [], [], [], ([], [], []), ([], [], [], [], [], []))


class SteerJunk(GridJunk):
    def polynomial(self):
        return self.mixed(self.chance.choice(FACTORS), self.numbers)

    def tuples(self):
        return [(self.polynomial(), self.numbers(), self.numbers(), self.numbers()) for _ in range(self.chance.choice([0, 1, 2, 3]))]

    def of_factor(self, paper):
        told = self.mixed(paper[2], self.tuples)
        if self.chance.random() < 0.5:
            told = [(self.mixed(part, self.polynomial), self.mixed(a, self.numbers), self.mixed(b, self.numbers), self.mixed(w, self.numbers))
                    for part, a, b, w in told]
        return (self.mixed(paper[0], self.numbers), self.mixed(paper[1], self.numbers), told)

    def of_steering(self, paper):
        kinds = (self.numbers, self.numbers, self.pairs, self.pairs, self.tables, self.tables)
        return tuple(self.mixed(good, kind) for good, kind in zip(paper, kinds)) + (self.of_factor(paper[6]), self.of_paper(paper[7]))

    def of_parts(self, told, shown):
        kinds = (self.numbers, self.numbers, self.pairs, self.pairs, self.pairs, self.lists)
        return (tuple(self.mixed(good, kind) for good, kind in zip(told, (self.numbers, self.lists, self.numbers))),
                tuple(self.mixed(good, kind) for good, kind in zip(shown, kinds)))


class TestJunk(unittest.TestCase):
    def test_factors(self):
        for seed, grid in enumerate(common_grids(150, 31)):
            junk, told = SteerJunk(seed), exact_factor(grid)
            paper = factor_paper(grid) or ([], [], [])
            for _ in range(20):
                self.assertIn(fresh(self, is_arrangement, grid, junk.mixed(paper[0], junk.numbers), junk.mixed(paper[1], junk.numbers)), (True, False))
                other = junk.of_factor(paper)
                for part, columns, places, weights in other[2]:
                    self.assertIn(fresh(self, are_weights, grid, part, columns, places, weights), (True, False))
                factor = junk.mixed(told or [1], junk.polynomial)
                accepted = fresh(self, check_factor, grid, factor, other)
                self.assertTrue(accepted is False or factor == told)

    def test_steering(self):
        for seed, model in enumerate(steered_models(120, 32)):
            junk = SteerJunk(seed)
            full = rank(model) == len(model[1])
            told, paper = (steering(model), steering_paper(model)) if full else ((0, [1]), NO_PAPER)
            for _ in range(20):
                number, factor = junk.mixed(told[0], junk.number), junk.mixed(told[1], junk.polynomial)
                accepted = fresh(self, check_steering, model, number, factor, junk.of_steering(paper))
                self.assertTrue(accepted is False or (full and (number, factor) == told))

    def test_watching(self):
        for seed, model in enumerate(steered_models(150, 33, 4, 6)):
            junk = SteerJunk(seed)
            seen = sorted(junk.chance.sample(range(len(model[0])), junk.chance.randint(0, len(model[0]))))
            right = watching(model, seen)
            told, paper = right or (0, [1]), watching_paper(model, seen) or NO_PAPER
            for _ in range(20):
                number, factor = junk.mixed(told[0], junk.number), junk.mixed(told[1], junk.polynomial)
                accepted = fresh(self, check_watching, model, seen, number, factor, junk.of_steering(paper))
                self.assertTrue(accepted is False or (number, factor) == right)
            other = junk.numbers()
            try:
                self.assertIn(check_watching(model, other, *told, paper), (True, False))
            except NotASet as error:
                self.assertTrue(0 <= error.at < len(other))

    def test_groups(self):
        for seed, model in enumerate(square_models(120, 34)):
            junk = SteerJunk(seed)
            try:
                right = groups(model)
            except NotFull:
                continue
            beginning, parts, shown = groups_paper(model)
            for _ in range(20):
                told = junk.mixed(right, junk.lists)
                paper = (junk.mixed(beginning, lambda: junk.of_paper(beginning)),) + junk.of_parts(parts, shown)
                accepted = fresh(self, check_groups, model, told, paper)
                self.assertTrue(accepted is False or told == right)


if __name__ == "__main__":
    unittest.main()
