import random
import unittest

from tests.helpers import Chosen, fails, fresh, mutated, slow_rank, slow_value, small_models, subsets
from tests.test_assign import slow_is_assignment
from unsaidsizes.blocks.tied import check_loose, check_tied, loose, loose_paper, tied, tied_paper
from unsaidsizes.errors import Loose, NoQuantity, Tied
from unsaidsizes.ranks.papers import rank_paper

# b and c are tied to each other and to the source; a and d are not.
MODEL = (["a", "b", "c", "d"], [
    ("exact", [(1, 0, 1), (2, 1, 2)], "f"), ("exact", [(1, 0, 1), (3, 0, 2)], ""), ("sized", 0, 0, [("s", 1, 3)], "")])

FILLERS = {0: [0], 1: [0], 2: [(0, 0)], 3: [0]}


def slow_least_sets(model):
    chosen = Chosen(model)
    values = {tuple(columns): slow_value(model, columns, chosen) for columns in subsets(range(len(model[0])))}
    least = min(values.values())
    return [list(columns) for columns, number in values.items() if number == least]


def slow_loose(model):
    """The quantities without which the rank is less by nothing: the others of full rank leave them out."""
    chosen = Chosen(model)
    whole = slow_rank(model, chosen=chosen)
    everything = range(len(model[0]))
    return [j for j in everything if slow_rank(model, columns=[k for k in everything if k != j], chosen=chosen) == whole]


def slow_check_rank(model, paper):
    """Point 307 for the size of the assignment."""
    rows, columns, pairs, poor = paper
    if poor != sorted(set(poor)) or not all(0 <= j < len(model[0]) for j in poor):
        return False
    if not slow_is_assignment(model, rows, columns, pairs):
        return False
    return len(columns) + len(pairs) == len(model[0]) + slow_value(model, poor)


class TestTied(unittest.TestCase):
    def test_told(self):
        self.assertEqual(fresh(self, tied, MODEL), [1, 2])
        self.assertEqual(fresh(self, loose, MODEL), [0, 3])
        self.assertEqual((tied(([], [])), loose(([], []))), ([], []))
        self.assertEqual((tied((["a"], [])), loose((["a"], []))), ([], [0]))
        self.assertEqual((tied(([], [("exact", [], "f")])), loose(([], [("exact", [], "f")]))), ([], []))

    def test_what_all_least_sets_have(self):
        for model in small_models(120):
            sets = slow_least_sets(model)
            common = [j for j in range(len(model[0])) if all(j in one for one in sets)]
            self.assertEqual(fresh(self, loose, model), common)
            self.assertEqual(loose(model), slow_loose(model))
            self.assertEqual(fresh(self, tied, model), [j for j in range(len(model[0])) if j not in common])

    def test_papers(self):
        for model in small_models(100):
            known = loose(model)
            for j in range(len(model[0])):
                if j in known:
                    fails(self, Loose, j, tied_paper, model, j)
                    paper = fresh(self, loose_paper, model, j)
                    self.assertIs(fresh(self, check_loose, model, j, paper), True)
                    self.assertIs(fresh(self, check_tied, model, j, paper), False)
                else:
                    fails(self, Tied, j, loose_paper, model, j)
                    paper = fresh(self, tied_paper, model, j)
                    self.assertIs(fresh(self, check_tied, model, j, paper), True)
                    self.assertIs(fresh(self, check_loose, model, j, paper), False)
                # Papers of other quantities: what they show is right.
                for other in range(len(model[0])):
                    self.assertIs(check_tied(model, other, paper), other not in paper[3])
                    held = paper[1] + [k for _, k in paper[2]]
                    self.assertIs(check_loose(model, other, paper), other not in held)
                    self.assertTrue(other in paper[3] or other not in known)
                    self.assertTrue(other in held or other in known)

    def test_no_quantity(self):
        for model in (MODEL, ([], []), (["a"], [])):
            for j in (-1, len(model[0]), -len(model[0]) - 1, 10 ** 30, -(10 ** 30)):
                fails(self, NoQuantity, j, tied_paper, model, j)
                fails(self, NoQuantity, j, loose_paper, model, j)
                self.assertIs(check_tied(model, j, rank_paper(model)), False)
                self.assertIs(check_loose(model, j, rank_paper(model)), False)

    def test_one_thing_changed(self):
        good = ([0, 1], [1, 2], [(2, 0)], [0, 3])
        self.assertIs(fresh(self, check_tied, MODEL, 1, good), True)
        self.assertIs(check_loose(MODEL, 3, good), True)
        self.assertIs(check_loose(MODEL, 0, good), False)
        self.assertIs(check_tied(MODEL, 0, good), False)
        other = ([0, 1], [1, 2], [(2, 3)], [0, 1, 2, 3])
        self.assertIs(check_loose(MODEL, 0, other), True)
        self.assertIs(check_tied(MODEL, 1, other), False)
        self.assertIs(check_tied(MODEL, 1, other[:3] + ([],)), False)
        for at, others in ((0, ([0], [1, 0], [], [0, 2], [0, 9], [-1, 0], [0, 1, 1])),
                           (1, ([1], [2, 1], [1, 3], [1, 2, 3], [1, 9], [-3, 2])),
                           (2, ([], [(2, 1)], [(1, 0)], [(2, 0), (2, 3)], [(2, 9)], [(-1, 0)])),
                           (3, ([], [0], [3], [3, 0], [0, 0, 3], [0, 3, 9], [-1, 0, 3]))):
            for wrong in others:
                paper = good[:at] + (wrong,) + good[at + 1:]
                self.assertIs(fresh(self, check_tied, MODEL, 1, paper), False, paper)
                self.assertIs(fresh(self, check_loose, MODEL, 3, paper), False, paper)

    def test_changed_papers(self):
        chance = random.Random(401)
        refused = 0
        for model in small_models(60):
            for _ in range(20):
                paper = mutated(chance, rank_paper(model), FILLERS)
                told = slow_check_rank(model, paper)
                held = paper[1] + [k for _, k in paper[2]]
                refused += not told
                for j in range(-1, len(model[0]) + 1):
                    there = told and 0 <= j < len(model[0])
                    self.assertIs(check_tied(model, j, paper), there and j not in paper[3], (model, paper))
                    self.assertIs(check_loose(model, j, paper), there and j not in held, (model, paper))
        self.assertGreater(refused, 300)


if __name__ == "__main__":
    unittest.main()
