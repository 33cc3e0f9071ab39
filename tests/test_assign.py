import random
import unittest

from tests.helpers import (
    Chosen, fails, fresh, made_up, slow_determinant, slow_entry, slow_rank, slow_touched, slow_value, small_models,
    subsets, with_sums)
from unsaidsizes.base.tables import number_rank, value_at
from unsaidsizes.errors import NoLaw, NoQuantity, NotASet, NotExact
from unsaidsizes.models.model import exact_table, is_model
from unsaidsizes.ranks.assign import (
    assignment, entry, exact_rank, falling, is_assignment, least_sets, rank, value)

# The first three laws: the third one is the derivative of the first one plus the second one.
CANCEL = (["a", "b", "c"], [
    ("exact", [(1, 0, 0), (2, 1, 1)], ""), ("exact", [(-1, 1, 0), (5, 0, 2)], "f"),
    ("exact", [(2, 2, 1), (5, 0, 2)], ""), ("sized", 1, 2, [("s", 0, 2)], ""), ("exact", [], "g")])


def slow_is_assignment(model, rows, columns, pairs):
    """Point 305, word by word."""
    laws = model[1]
    many = len(model[0])
    if rows != sorted(set(rows)) or columns != sorted(set(columns)) or len(rows) != len(columns):
        return False
    if not all(0 <= i < len(laws) and laws[i][0] == "exact" for i in rows):
        return False
    if not all(0 <= j < many for j in columns):
        return False
    if not slow_determinant([[slow_entry(laws[i], j) for j in columns] for i in rows]):
        return False
    first = [i for i, _ in pairs]
    second = [j for _, j in pairs]
    if first != sorted(set(first)) or len(set(second)) < len(second) or set(second) & set(columns):
        return False
    return all(0 <= i < len(laws) and laws[i][0] == "sized" and j in slow_touched(laws[i]) for i, j in pairs)


class TestEntry(unittest.TestCase):
    def test_told(self):
        self.assertEqual(fresh(self, entry, CANCEL, 0, 1), [0, 2])
        self.assertEqual(fresh(self, entry, CANCEL, 0, 0), [1])
        self.assertEqual(fresh(self, entry, CANCEL, 0, 2), [])
        self.assertEqual(fresh(self, entry, CANCEL, 4, 2), [])
        several = (["a", "b"], [("exact", [(4, 3, 1), (-7, 0, 1), (9, 1, 0), (1, 2, 0)], "")])
        self.assertEqual(fresh(self, entry, several, 0, 1), [-7, 0, 0, 4])
        self.assertEqual(fresh(self, entry, several, 0, 0), [0, 9, 1])

    def test_errors(self):
        for i in (-1, 5, 10 ** 40):
            for j in (-1, 0, 3):
                fails(self, NoLaw, i, entry, CANCEL, i, j)
        for j in (-1, 3, -(10 ** 40)):
            fails(self, NoQuantity, j, entry, CANCEL, 0, j)
            fails(self, NoQuantity, j, entry, CANCEL, 3, j)
        fails(self, NotExact, 3, entry, CANCEL, 3, 0)
        fails(self, NoLaw, 0, entry, ([], []), 0, 0)


class TestSets(unittest.TestCase):
    def test_told(self):
        self.assertEqual(exact_rank(CANCEL, [0, 1, 2]), 2)
        self.assertEqual(exact_rank(CANCEL, [1]), 1)
        self.assertEqual(exact_rank(CANCEL, []), 0)
        self.assertEqual(fresh(self, falling, CANCEL, [0, 1]), [])
        self.assertEqual(fresh(self, falling, CANCEL, [2]), [3])
        self.assertEqual(value(CANCEL, [0, 1, 2]), 0)
        self.assertEqual(value(CANCEL, []), 0)

    def test_not_a_set(self):
        for columns, at in (([3], 0), ([-1], 0), ([0, 0], 1), ([1, 0], 1), ([0, 2, 1], 2), ([0, 1, 3], 2),
                            ([0, 1, 2, 2], 3), ([0, 10 ** 30], 1), ([2, -1, 5], 1), ([0, 1, 2] * 50, 3)):
            for function in (exact_rank, falling, value):
                fails(self, NotASet, at, function, CANCEL, columns)
        for function in (exact_rank, falling, value):
            fails(self, NotASet, 0, function, ([], []), [0])

    def test_by_definition(self):
        for model in small_models():
            chosen = Chosen(model)
            table = exact_table(model)
            reach = sum(max([0] + [len(one) - 1 for one in row]) for row in table)
            for columns in subsets(range(len(model[0]))):
                told = fresh(self, exact_rank, model, columns)
                self.assertEqual(told, chosen.exact_rank(columns))
                part = [[row[j] for j in columns] for row in table]
                self.assertEqual(told, max(number_rank(value_at(part, at)) for at in range(reach + 1)))
                touched = [i for i, one in enumerate(model[1])
                           if one[0] == "sized" and slow_touched(one) & set(columns)]
                self.assertEqual(fresh(self, falling, model, columns), touched)
                self.assertEqual(value(model, columns), slow_value(model, columns, chosen))

    def test_rank_where_all_numbers_but_one_fail(self):
        # The determinant has zeros at 0, 1, .., 11 and the degree 12.
        model = ([f"q{k}" for k in range(4)], [
            ("exact", [(2, 1, 0), (-3, 2, 0), (1, 3, 0)], ""),
            ("exact", [(-60, 0, 1), (47, 1, 1), (-12, 2, 1), (1, 3, 1)], ""),
            ("exact", [(-336, 0, 2), (146, 1, 2), (-21, 2, 2), (1, 3, 2)], ""),
            ("exact", [(-990, 0, 3), (299, 1, 3), (-30, 2, 3), (1, 3, 3)], "")])
        table = exact_table(model)
        self.assertEqual([number_rank(value_at(table, at)) for at in range(13)], [3] * 12 + [4])
        self.assertEqual(exact_rank(model, [0, 1, 2, 3]), 4)
        self.assertEqual(rank(model), 4)


class TestAssignment(unittest.TestCase):
    def test_each_condition_alone(self):
        model = (["a", "b", "c", "d"], [
            ("exact", [(1, 0, 0), (1, 1, 1)], ""), ("exact", [(2, 0, 0), (2, 1, 1)], ""),
            ("sized", 0, 2, [("s", 0, 3), ("t", 1, 0)], ""), ("exact", [(1, 0, 1)], ""),
            ("sized", 0, 3, [("r", 0, 2)], "")])
        self.assertIs(fresh(self, is_assignment, model, [0, 3], [0, 1], [(2, 2), (4, 3)]), True)
        for rows, columns, pairs in (
                ([], [], []), ([0], [1], []), ([1, 3], [0, 1], []), ([], [], [(2, 0)]), ([0], [1], [(2, 0), (4, 2)])):
            self.assertIs(is_assignment(model, rows, columns, pairs), True)
        for rows, columns, pairs in (
                ([3, 0], [0, 1], []), ([0, 3], [1, 0], []), ([0, 0], [0, 1], []), ([0, 3], [0, 0], []),
                ([0, 1], [0, 1], []), ([0], [2], []), ([0], [], []), ([], [0], []), ([0, 3], [0], []), ([2], [2], []),
                ([5], [0], []), ([-1], [0], []), ([0], [4], []), ([0], [-1], []), ([0], [-4], []), ([-5], [0], []),
                ([], [], [(4, 3), (2, 2)]), ([], [], [(2, 2), (2, 3)]), ([], [], [(2, 2), (4, 2)]),
                ([0], [0], [(2, 0)]), ([], [], [(4, 0)]), ([], [], [(2, 1)]), ([], [], [(0, 0)]), ([], [], [(5, 2)]),
                ([], [], [(-1, 2)]), ([], [], [(-3, 2)]), ([], [], [(2, -2)]), ([], [], [(2, 4)]),
                ([], [], [(10 ** 30, 2)]), ([10 ** 30], [10 ** 30], []), (list(range(50)), list(range(50)), []),
                ([0] * 1000, [0] * 1000, [(2, 2)] * 1000)):
            self.assertIs(fresh(self, is_assignment, model, rows, columns, pairs), False, (rows, columns, pairs))

    def test_by_definition(self):
        chance = random.Random(15)
        for model in small_models(80):
            many, laws = len(model[0]), len(model[1])
            for _ in range(25):
                size = chance.randint(0, min(many, 3))
                rows = sorted(chance.randint(-1, laws) for _ in range(size))
                columns = sorted(chance.sample(range(many), size))
                pairs = sorted((chance.randint(-1, laws), chance.randint(-1, many)) for _ in range(chance.randint(0, 2)))
                told = slow_is_assignment(model, rows, columns, pairs)
                self.assertIs(is_assignment(model, rows, columns, pairs), told)

    def test_greatest(self):
        for model in small_models(120):
            rows, columns, pairs = fresh(self, assignment, model)
            self.assertTrue(slow_is_assignment(model, rows, columns, pairs))
            told = rank(model)
            self.assertEqual(len(columns) + len(pairs), told)
            chosen = Chosen(model)
            self.assertEqual(told, slow_rank(model, chosen=chosen))
            values = {tuple(columns): slow_value(model, columns, chosen) for columns in subsets(range(len(model[0])))}
            least = min(values.values())
            self.assertEqual(told, len(model[0]) + least)
            sets = [set(columns) for columns, number in values.items() if number == least]
            smallest, greatest = fresh(self, least_sets, model)
            self.assertEqual(smallest, sorted(set.intersection(*sets)))
            self.assertEqual(greatest, sorted(set.union(*sets)))

    def test_least_sets_of_none(self):
        self.assertEqual(fresh(self, least_sets, ([], [])), ([], []))
        self.assertEqual(fresh(self, least_sets, (["a", "b"], [])), ([0, 1], [0, 1]))
        self.assertEqual(fresh(self, assignment, ([], [])), ([], [], []))
        self.assertEqual(rank((["a", "b"], [])), 0)
        self.assertEqual(rank(([], [("exact", [], "f")])), 0)

    def test_numbers_that_cancel(self):
        self.assertEqual(rank(CANCEL), 3)
        self.assertEqual(fresh(self, least_sets, CANCEL), ([], [0, 1, 2]))
        # Without the cancelling the rank would be 4.
        model = (CANCEL[0] + ["z"], CANCEL[1] + [("exact", [(1, 0, 0), (2, 1, 1)], "")])
        self.assertEqual(rank(model), 3)
        self.assertEqual(fresh(self, least_sets, model), ([3], [0, 1, 2, 3]))

    def test_great_models(self):
        for seed, exact, number, terms in ((1, 0.5, 9, 4), (2, 0.6, 1000000, 4), (3, 0.9, 1000000, 5), (4, 0, 1, 3),
                                           (5, 1, 3, 2), (6, 0.7, 2, 3)):
            model = with_sums(seed, made_up(seed, 30, 36, exact, number, terms, 9), 4 if exact else 0)
            model = (model[0], model[1][:40])
            told = rank(model)
            self.assertEqual(told, slow_rank(model))
            rows, columns, pairs = assignment(model)
            self.assertIs(is_assignment(model, rows, columns, pairs), True)
            self.assertEqual(len(columns) + len(pairs), told)
            for columns in least_sets(model):
                self.assertEqual(30 + value(model, columns), told)
                self.assertEqual(30 + slow_value(model, columns), told)

    def test_many_derivatives(self):
        # Twelve laws of the first order with great numbers, and two that they cancel with.
        chance = random.Random(16)
        quantities = [f"q{k}" for k in range(13)]
        laws = [("exact", [(chance.randint(-1000000, 1000000) or 1, k, j) for j in range(13) for k in (0, 1)], "")
                for _ in range(10)]
        for one, two in ((0, 1), (2, 3)):
            total = {}
            for i, factor in ((one, 1), (two, -1)):
                for number, k, j in laws[i][1]:
                    total[k, j] = total.get((k, j), 0) + factor * number
            terms = [(number // 2 * 2, k, j) for (k, j), number in total.items() if number]
            terms = [(max(-1000000, min(1000000, number)), k, j) for number, k, j in terms if number]
            laws.append(("exact", terms, ""))
        model = (quantities, laws + [laws[4], laws[5]])
        self.assertTrue(is_model(model))
        self.assertEqual(exact_rank(model, list(range(13))), Chosen(model).exact_rank(range(13)))
        self.assertEqual(rank(model), 12)


if __name__ == "__main__":
    unittest.main()
