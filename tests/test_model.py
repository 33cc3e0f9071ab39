import random
import unittest

from tests.helpers import fresh, made_up, small_models
from unsaidsizes.models.model import (
    exact_laws, exact_table, is_model, meetings, powers, sized_laws, sizes_of)

MODEL = (["a", "b", "c.d"], [
    ("sized", 2, 0, [("s", 0, 1), ("t", 3, 0)], "f"),
    ("exact", [(5, 0, 1), (-3, 2, 1), (1, 3, 0)], ""),
    ("exact", [], "f"),
    ("sized", 0, 2, [("r.x", 1, 2)], "")])


def told_model(quantities=("a", "b"), terms=((1, 0, 0), (2, 1, 1)), source="f", front=(1, 0),
               sized=(("s", 0, 0), ("t", 0, 1)), sized_source=""):
    return (list(quantities), [("exact", list(terms), source), ("sized", *front, list(sized), sized_source)])


class TestIsModel(unittest.TestCase):
    def test_models(self):
        for model in [MODEL, ([], []), (["a"], []), ([], [("exact", [], "")]), told_model()] + small_models(20):
            self.assertIs(fresh(self, is_model, model), True)

    def test_names(self):
        good = ["a", "z9", "a.b", "a0.b.c9", "a" * 200, "a." * 99 + "bc", "inner"]
        bad = ["", "9", "9a", "A", "aB", "a_b", "a b", " a", "a.", ".a", "a..b", "a.9", "a.9b", "a" * 201,
               "a." * 100 + "b", "a'", "a*", "~", "."]
        self.assertEqual(len(good[4]), 200)
        for names, told in ((good, True), (bad, False)):
            for name in names:
                self.assertIs(is_model(told_model(quantities=[name, "b"])), told, name)
                self.assertIs(is_model(told_model(("qq", "rr"), sized=[(name, 0, 0), ("t", 0, 1)])), told, name)
                if name != "":
                    self.assertIs(is_model(told_model(source=name)), told, name)
                    self.assertIs(is_model(told_model(sized_source=name)), told, name)
        self.assertIs(is_model(told_model(source="", sized_source="")), True)
        # A source may have any name, also one that stands for something else.
        self.assertIs(is_model(told_model(source="a", sized_source="s")), True)
        self.assertIs(is_model(told_model(source="f", sized_source="f")), True)

    def test_repeated_names(self):
        self.assertIs(is_model((["a", "a"], [])), False)
        self.assertIs(is_model((["a", "b", "c", "a"], [])), False)
        self.assertIs(is_model(told_model(sized=[("s", 0, 0), ("s", 0, 1)])), False)
        self.assertIs(is_model(told_model(sized=[("a", 0, 0), ("t", 0, 1)])), False)
        self.assertIs(is_model(told_model(sized=[("s", 0, 0), ("b", 0, 1)])), False)
        twice = [("sized", 0, 0, [("s", 0, 1)], ""), ("exact", [], ""), ("sized", 0, 1, [("s", 0, 0)], "")]
        self.assertIs(is_model((["a", "b"], twice)), False)
        twice[2] = ("sized", 0, 1, [("t", 0, 0)], "")
        self.assertIs(is_model((["a", "b"], twice)), True)

    def test_lengths(self):
        names = [f"q{k}" for k in range(31)]
        self.assertIs(is_model((names[:30], [])), True)
        self.assertIs(is_model((names, [])), False)
        self.assertIs(is_model(([], [("exact", [], "")] * 40)), True)
        self.assertIs(is_model(([], [("exact", [], "")] * 41)), False)
        self.assertIs(is_model((["a"] * 5000, [("exact", [], "")] * 5000)), False)
        many = [(1, k, j) for k in range(4) for j in range(30)]
        self.assertIs(is_model((names[:30], [("exact", many, "")])), True)
        self.assertIs(is_model((names[:30], [("exact", many * 100, "")])), False)

    def test_numbers(self):
        for number, told in ((1, True), (-1, True), (0, False), (1000000, True), (-1000000, True), (1000001, False),
                             (-1000001, False), (10 ** 5000, False)):
            self.assertIs(is_model(told_model(terms=[(1, 0, 1), (number, 0, 0)])), told, number)

    def test_orders_and_indexes(self):
        for k, told in ((0, True), (3, True), (4, False), (-1, False), (10 ** 50, False)):
            self.assertIs(is_model(told_model(terms=[(1, k, 0)])), told, k)
            self.assertIs(is_model(told_model(front=(k, 0), sized=[("s", 1, 0), ("t", 0, 1)])), told, k)
            self.assertIs(is_model(told_model(sized=[("s", k, 1)])), told, k)
        for j, told in ((0, True), (1, True), (2, False), (-1, False), (-2, False), (10 ** 50, False)):
            self.assertIs(is_model(told_model(terms=[(1, 0, j)])), told, j)
            self.assertIs(is_model(told_model(front=(2, j))), told, j)
            self.assertIs(is_model(told_model(sized=[("s", 0, j)])), told, j)

    def test_places(self):
        self.assertIs(is_model(told_model(terms=[(1, 0, 0), (2, 0, 0)])), False)
        self.assertIs(is_model(told_model(terms=[(1, 0, 0), (1, 1, 0)])), True)
        self.assertIs(is_model(told_model(terms=[(1, 1, 0), (5, 0, 1), (1, 1, 0)])), False)
        self.assertIs(is_model(told_model(sized=[("s", 0, 1), ("t", 0, 1)])), False)
        self.assertIs(is_model(told_model(front=(0, 1), sized=[("s", 0, 0), ("t", 0, 1)])), False)
        self.assertIs(is_model(told_model(front=(0, 1), sized=[("s", 0, 0), ("t", 1, 1)])), True)

    def test_terms(self):
        self.assertIs(is_model(told_model(terms=[])), True)
        self.assertIs(is_model(told_model(sized=[])), False)
        self.assertIs(is_model(told_model(sized=[("s", 0, 0)])), True)


class TestLists(unittest.TestCase):
    def test_told_model(self):
        self.assertEqual(fresh(self, powers, MODEL), [[3, 0, None], [3, 2, None], [None] * 3, [None, None, 1]])
        self.assertEqual(fresh(self, exact_table, MODEL), [[[0, 0, 0, 1], [5, 0, -3], []], [[], [], []]])
        self.assertEqual(fresh(self, meetings, MODEL), [[0, 1], [2]])
        self.assertEqual(fresh(self, exact_laws, MODEL), [1, 2])
        self.assertEqual(fresh(self, sized_laws, MODEL), [0, 3])
        self.assertEqual(fresh(self, sizes_of, MODEL), ["s", "t", "r.x"])

    def test_nothing(self):
        for function in (powers, exact_table, meetings, exact_laws, sized_laws, sizes_of):
            self.assertEqual(fresh(self, function, ([], [])), [])
            self.assertEqual(fresh(self, function, (["a", "b"], [])), [])
        empty = ([], [("exact", [], ""), ("exact", [], "f")])
        self.assertEqual(fresh(self, powers, empty), [[], []])
        self.assertEqual(fresh(self, exact_table, empty), [[], []])

    def test_by_definition(self):
        chance = random.Random(9)
        for seed in range(40):
            model = made_up(seed, chance.randint(1, 8), chance.randint(0, 8), 0.5, 1000000, 5, 12)
            quantities, laws = model
            told = fresh(self, powers, model)
            table = fresh(self, exact_table, model)
            met = fresh(self, meetings, model)
            self.assertEqual(exact_laws(model), [i for i in range(len(laws)) if laws[i][0] == "exact"])
            self.assertEqual(sized_laws(model), [i for i in range(len(laws)) if laws[i][0] == "sized"])
            self.assertEqual(len(table), len(exact_laws(model)))
            for i, one in enumerate(laws):
                places = [(k, j) for _, k, j in one[-2]] + ([] if one[0] == "exact" else [(one[1], one[2])])
                for j in range(len(quantities)):
                    self.assertEqual(told[i][j], max([k for k, own in places if own == j], default=None))
            for row, i in zip(table, exact_laws(model)):
                for j, polynomial in enumerate(row):
                    self.assertTrue(polynomial == [] or polynomial[-1] != 0)
                    numbers = {k: number for number, k, own in laws[i][1] if own == j}
                    self.assertEqual({k: number for k, number in enumerate(polynomial) if number}, numbers)
            for row, i in zip(met, sized_laws(model)):
                self.assertEqual(row, sorted({laws[i][2]} | {j for _, _, j in laws[i][3]}))


if __name__ == "__main__":
    unittest.main()
