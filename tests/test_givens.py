import random
import unittest
from itertools import permutations

from tests.helpers import Chosen, fails, fresh, made_up, slow_rank, slow_value, small_models, subsets, with_sums
from unsaidsizes.blocks.givens import check_givens, completes, dearest, givens_paper, kept, spare
from unsaidsizes.errors import BadOrder, BadWish, NotASet
from unsaidsizes.ranks.assign import rank

MODEL = (["a", "b", "c", "d"], [
    ("exact", [(1, 0, 0), (1, 1, 1)], ""), ("sized", 0, 1, [("s", 0, 2)], ""), ("exact", [(2, 0, 0), (2, 1, 1)], "f")])


def slow_completing(model):
    """All completing sets."""
    chosen = Chosen(model)
    whole = slow_rank(model, chosen=chosen)
    found = []
    for columns in subsets(range(len(model[0]))):
        others = [j for j in range(len(model[0])) if j not in columns]
        if len(others) == whole and slow_rank(model, columns=others, chosen=chosen) == whole:
            found.append(columns)
    return found


def all_wishes(model, chance, many):
    quantities = list(range(len(model[0])))
    yield []
    yield quantities
    yield quantities[::-1]
    for _ in range(many):
        yield chance.sample(quantities, chance.randint(0, len(quantities)))


def places(model, wishes):
    order = wishes + [j for j in range(len(model[0])) if j not in wishes]
    return {j: k for k, j in enumerate(order)}


class TestCompletes(unittest.TestCase):
    def test_all_sets(self):
        for model in small_models(80):
            told = slow_completing(model)
            for columns in subsets(range(len(model[0]))):
                self.assertIs(fresh(self, completes, model, columns), columns in told)

    def test_not_a_set(self):
        for columns, at in (([4], 0), ([-1], 0), ([0, 0], 1), ([2, 1], 1), ([0, 1, 2, 3, 4], 4), ([0, 10 ** 30], 1)):
            fails(self, NotASet, at, completes, MODEL, columns)
        self.assertIs(completes(([], []), []), True)


class TestDearest(unittest.TestCase):
    def test_told(self):
        self.assertEqual(fresh(self, dearest, MODEL, []), [0, 3])
        self.assertEqual(fresh(self, dearest, MODEL, [3, 2]), [2, 3])
        # A given b ties c, and the other way round.
        self.assertEqual(fresh(self, dearest, MODEL, [1, 2, 0]), [1, 3])
        self.assertEqual(dearest(([], []), []), [])
        self.assertEqual(dearest((["a", "b"], []), [1]), [0, 1])

    def test_first_of_all(self):
        chance = random.Random(41)
        for model in small_models(80):
            sets = slow_completing(model)
            for wishes in all_wishes(model, chance, 5):
                place = places(model, wishes)
                told = fresh(self, dearest, model, wishes)
                self.assertIn(told, sets)
                own = sorted(place[j] for j in told)
                for other in sets:
                    ranks = sorted(place[j] for j in other)
                    self.assertTrue(all(one <= two for one, two in zip(own, ranks)))

    def test_bad_wishes(self):
        for wishes, at in (([4], 0), ([-1], 0), ([0, 1, 0], 2), ([3, 3], 1), ([0, 1, 2, 3, 4], 4), ([2, 10 ** 30], 1),
                           ([1, 0, 1, 9], 2)):
            fails(self, BadWish, at, dearest, MODEL, wishes)
            fails(self, BadWish, at, givens_paper, MODEL, wishes)
            fails(self, BadWish, at, check_givens, MODEL, wishes, [9], ([9], [], [], [], []))


class TestPapers(unittest.TestCase):
    def test_told(self):
        chance = random.Random(42)
        for model in small_models(60):
            sets = slow_completing(model)
            for wishes in all_wishes(model, chance, 3):
                paper = fresh(self, givens_paper, model, wishes)
                told = dearest(model, wishes)
                self.assertIs(fresh(self, check_givens, model, wishes, told, paper), True)
                for other in sets:
                    self.assertIs(check_givens(model, wishes, other, paper), other == told)
                self.slow_check(model, wishes, told, paper)

    def slow_check(self, model, wishes, columns, paper):
        """What point 413 says of the sets, with the slow value."""
        place = places(model, wishes)
        others = [j for j in range(len(model[0])) if j not in columns]
        self.assertEqual(len(paper[4]), len(others))
        for j, poor in zip(others, paper[4]):
            dearer = [given for given in columns if place[given] < place[j]]
            self.assertFalse(set(poor) & set(dearer + [j]))
            self.assertLess(len(model[0]) - len(dearer) - 1 + slow_value(model, poor), len(others))

    def test_one_thing_changed(self):
        wishes = [2, 1]
        columns = dearest(MODEL, wishes)
        self.assertEqual(columns, [2, 3])
        good = ([0], [0], [(1, 1)], [0, 1, 2, 3], [[3], [3]])
        self.assertIs(fresh(self, check_givens, MODEL, wishes, columns, good), True)
        for wrong in ([], [2], [3], [3, 2], [1, 3], [2, 2, 3], [2, 3, 4], [-1, 2], [2, 3, 3], [0, 1], list(range(99))):
            self.assertIs(check_givens(MODEL, wishes, wrong, good), False, wrong)
        for at, others in (
                (0, ([], [1], [0, 2], [-1], [0, 0])), (1, ([], [1], [2], [0, 1], [9], [-4])),
                (2, ([], [(1, 2)], [(1, 0)], [(0, 1)], [(1, 1), (1, 1)], [(-2, 1)], [(1, 9)])),
                (3, ([], [2, 3], [0, 1, 2], [0, 1, 3, 2], [0, 1, 2, 3, 4], [0, 1, 2, -1])),
                (4, ([], [[3]], [[3], [3], [3]], [[], [3]], [[3], []], [[0, 3], [3]], [[3], [1, 3]], [[2, 3], [3]],
                     [[3], [2, 3]], [[3], [3, 3]], [[3], [4]], [[-1], [3]], [[3], [10 ** 30]]))):
            for other in others:
                paper = good[:at] + (other,) + good[at + 1:]
                self.assertIs(fresh(self, check_givens, MODEL, wishes, columns, paper), False, paper)
        # For other wishes the same sets do not do.
        for others in ([0], [1], [1, 2], [0, 1, 2, 3], []):
            self.assertIs(check_givens(MODEL, others, columns, good), False)
        self.assertIs(check_givens(MODEL, [2, 0], columns, good), True)
        # If all that is given is dearer, what is left has too few quantities anyhow.
        self.assertIs(check_givens(MODEL, [3, 2], columns, ([0], [0], [(1, 1)], [0, 1, 2, 3], [[], []])), True)

    def test_sets_for_other_orders(self):
        # A set that shows a quantity to be tied by the dearer ones only shows it for these.
        model = (["a", "b", "c"], [("exact", [(1, 0, 0), (1, 0, 1), (1, 0, 2)], "")])
        self.assertIs(check_givens(model, [0, 1], [0, 1], ([0], [2], [], [0, 1, 2], [[]])), True)
        self.assertIs(check_givens(model, [0, 2], [0, 1], ([0], [2], [], [0, 1, 2], [[]])), False)
        self.assertIs(check_givens(model, [0, 2], [0, 1], ([0], [2], [], [0, 1, 2], [[1]])), False)
        self.assertIs(check_givens(([], []), [], [], ([], [], [], [], [])), True)
        self.assertIs(check_givens((["a"], []), [], [0], ([], [], [], [0], [])), True)


class TestSpareAndKept(unittest.TestCase):
    def test_spare(self):
        self.assertEqual(fresh(self, spare, MODEL), [0, 2])
        self.assertEqual(spare(([], [("exact", [], "f")])), [0])
        self.assertEqual(spare(([], [])), [])
        for model in small_models(150):
            chosen = Chosen(model)
            whole = slow_rank(model, chosen=chosen)
            laws = range(len(model[1]))
            told = [i for i in laws if slow_rank(model, [k for k in laws if k != i], chosen=chosen) == whole]
            self.assertEqual(fresh(self, spare, model), told)

    def test_spare_of_great_models(self):
        for seed, exact, number in ((51, 0.5, 9), (52, 0.9, 1000000), (53, 0, 1)):
            model = made_up(seed, 30, 31, exact, number, 3, 8)
            model = with_sums(seed, model, 3) if exact else model
            chosen = Chosen(model)
            laws = range(len(model[1]))
            whole = slow_rank(model, chosen=chosen)
            told = [i for i in laws if slow_rank(model, [k for k in laws if k != i], chosen=chosen) == whole]
            self.assertEqual(spare(model), told)

    def test_kept(self):
        self.assertEqual(fresh(self, kept, MODEL, [0, 1, 2]), [0, 1])
        self.assertEqual(fresh(self, kept, MODEL, [2, 0, 1]), [1, 2])
        self.assertEqual(kept(([], []), []), [])
        chance = random.Random(43)
        for model in small_models(80):
            chosen = Chosen(model)
            orders = list(permutations(range(len(model[1]))))
            for order in chance.sample(orders, min(len(orders), 5)):
                order = list(order)
                told, last = [], 0
                for i in order:
                    if slow_rank(model, told + [i], chosen=chosen) > last:
                        told.append(i)
                        last += 1
                self.assertEqual(fresh(self, kept, model, order), sorted(told))
                self.assertEqual(last, rank(model))

    def test_bad_orders(self):
        for order, at in (([], 0), ([0, 1], 2), ([0, 1, 2, 3], 3), ([0, 1, 1], 2), ([3, 0, 1], 0), ([-1], 0), ([0, 0], 1),
                          ([2, 1], 2), ([0, 1, 2, 0], 3), ([0, 10 ** 30, 0], 1), ([0, 1, 2] * 40, 3)):
            fails(self, BadOrder, at, kept, MODEL, order)
        fails(self, BadOrder, 0, kept, ([], []), [0])


if __name__ == "__main__":
    unittest.main()
