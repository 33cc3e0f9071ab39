import unittest

from tests.helpers import fresh, small_models, subsets, slow_value
from unsaidsizes.ranks.assign import rank
from unsaidsizes.ranks.papers import check_rank, rank_paper

MODEL = (["a", "b", "c"], [
    ("exact", [(1, 0, 0), (1, 1, 1)], ""), ("sized", 0, 1, [("s", 0, 2)], ""), ("exact", [(2, 0, 0), (2, 1, 1)], "f")])


class TestRankPapers(unittest.TestCase):
    def test_told(self):
        for model in small_models(100):
            paper = fresh(self, rank_paper, model)
            self.assertIs(fresh(self, check_rank, model, rank(model), paper), True)
            for number in (-1, rank(model) - 1, rank(model) + 1, 10 ** 40):
                self.assertIs(check_rank(model, number, paper), False)

    def test_every_least_set(self):
        for model in small_models(25):
            rows, columns, pairs, _ = rank_paper(model)
            for poor in subsets(range(len(model[0]))):
                told = len(model[0]) + slow_value(model, poor) == rank(model)
                self.assertIs(check_rank(model, rank(model), (rows, columns, pairs, poor)), told)

    def test_one_thing_changed(self):
        good = ([0], [0], [(1, 1)], [0, 1, 2])
        self.assertIs(check_rank(MODEL, 2, good), True)
        for at, others in (
                (0, ([], [1], [2, 0], [0, 2], [3], [-1], [0, 0], [10 ** 30])),
                (1, ([], [2], [1], [0, 1], [3], [-1], [-3], [0, 0])),
                (2, ([], [(1, 0)], [(0, 1)], [(2, 1)], [(1, 3)], [(1, -1)], [(1, 1), (1, 2)], [(3, 1)], [(-2, 1)])),
                (3, ([], [0], [2], [0, 2, 1], [0, 1, 2, 2], [0, 1, 3], [-1, 0, 1, 2], [0, 1, 2, 3], [-3, -2, -1]))):
            for other in others:
                paper = good[:at] + (other,) + good[at + 1:]
                self.assertIs(fresh(self, check_rank, MODEL, 2, paper), False, paper)
        for paper in (([2], [0], [(1, 1)], [0, 1, 2]), ([0], [1], [(1, 2)], [0, 1, 2]), ([0], [0], [(1, 2)], [0, 1, 2])):
            self.assertIs(check_rank(MODEL, 2, paper), True)

    def test_smaller_assignments(self):
        # The size is right for the set, but the set is not least: the numbers differ.
        self.assertIs(check_rank(MODEL, 1, ([0], [0], [], [0, 1, 2])), False)
        self.assertIs(check_rank(MODEL, 2, ([0], [0], [], [0, 1, 2])), False)
        self.assertIs(check_rank(MODEL, 3, ([0], [0], [(1, 1)], [])), False)
        self.assertIs(check_rank(([], []), 0, ([], [], [], [])), True)
        self.assertIs(check_rank(([], []), 0, ([], [], [], [0])), False)


if __name__ == "__main__":
    unittest.main()
