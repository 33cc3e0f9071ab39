import random
import unittest

from tests.helpers import Chosen, fails, fresh, made_up, small_models, with_sums
from unsaidsizes.blocks.givens import dearest, kept
from unsaidsizes.errors import BadOrder, BadWish, OutOfRange
from unsaidsizes.pairing.corners import corner, pairing

MODEL = (["a", "b", "c"], [
    ("exact", [(1, 0, 0), (1, 1, 1)], ""), ("sized", 0, 1, [("s", 0, 2)], ""), ("exact", [(2, 0, 0), (2, 1, 1)], "f"),
    ("exact", [(1, 0, 2)], "")])


def row_of(model, wishes):
    return wishes + [j for j in range(len(model[0])) if j not in wishes]


def slow_corners(model, order, wishes):
    chosen = Chosen(model)
    row = row_of(model, wishes)
    many = len(row)
    return [[chosen.rank(order[:i], row[many - k:]) for k in range(many + 1)] for i in range(len(order) + 1)]


def counts(model, order, wishes, pairs):
    row = row_of(model, wishes)
    many = len(row)
    return [[sum(which in order[:i] and j in row[many - k:] for which, j in pairs) for k in range(many + 1)]
            for i in range(len(order) + 1)]


def orders_and_wishes(model, chance, many):
    laws, quantities = list(range(len(model[1]))), list(range(len(model[0])))
    yield laws, []
    for _ in range(many):
        yield chance.sample(laws, len(laws)), chance.sample(quantities, chance.randint(0, len(quantities)))


class TestCorners(unittest.TestCase):
    def test_told(self):
        self.assertEqual(fresh(self, pairing, MODEL, [0, 1, 2, 3], []), [(0, 1), (1, 2), (3, 0)])
        self.assertEqual(fresh(self, pairing, MODEL, [3, 2, 1, 0], [2, 1]), [(3, 2), (2, 0), (1, 1)])
        self.assertEqual(pairing(([], []), [], []), [])
        self.assertEqual(pairing((["a"], []), [], [0]), [])
        self.assertEqual(pairing(([], [("exact", [], "")]), [0], []), [])
        self.assertEqual(corner(([], []), [], [], 0, 0), 0)

    def test_all_corners(self):
        chance = random.Random(61)
        for model in small_models(50):
            for order, wishes in orders_and_wishes(model, chance, 2):
                told = slow_corners(model, order, wishes)
                for i in range(len(order) + 1):
                    for k in range(len(model[0]) + 1):
                        self.assertEqual(fresh(self, corner, model, order, wishes, i, k), told[i][k])

    def test_pairing(self):
        chance = random.Random(62)
        models = small_models(150) + [made_up(63, 3, 9, 0.5, 1), made_up(64, 9, 3, 0.5, 1), made_up(65, 9, 4, 1, 1)]
        for model in models:
            for order, wishes in orders_and_wishes(model, chance, 4):
                pairs = fresh(self, pairing, model, order, wishes)
                self.assertEqual(counts(model, order, wishes, pairs), slow_corners(model, order, wishes))
                places = [order.index(which) for which, _ in pairs]
                self.assertEqual(places, sorted(set(places)))
                self.assertEqual(len({j for _, j in pairs}), len(pairs))
                self.assertEqual(sorted(which for which, _ in pairs), kept(model, order))
                given = sorted(set(range(len(model[0]))) - {j for _, j in pairs})
                self.assertEqual(given, dearest(model, wishes))

    def test_great_models(self):
        for seed, exact, number in ((66, 0.5, 9), (67, 0.85, 1000000), (68, 0, 1)):
            model = made_up(seed, 30, 37, exact, number, 3, 8)
            model = with_sums(seed, model, 3) if exact else model
            chance = random.Random(seed)
            order = chance.sample(range(len(model[1])), len(model[1]))
            wishes = chance.sample(range(30), 12)
            pairs = pairing(model, order, wishes)
            told = counts(model, order, wishes, pairs)
            chosen, row = Chosen(model), row_of(model, wishes)
            for _ in range(60):
                i, k = chance.randint(0, len(order)), chance.randint(0, 30)
                self.assertEqual(told[i][k], chosen.rank(order[:i], row[30 - k:]))
            self.assertEqual(corner(model, order, wishes, 25, 20), told[25][20])

    def test_errors(self):
        good, wishes = [0, 1, 2, 3], [1]
        for order, at in (([], 0), ([0, 1, 2], 3), ([0, 1, 2, 3, 0], 4), ([0, 0], 1), ([-1], 0), ([4, 1, 2, 3], 0),
                          ([0, 1, 2, 10 ** 30], 3), ([3, 2, 1, 1], 3)):
            fails(self, BadOrder, at, pairing, MODEL, order, [9])
            fails(self, BadOrder, at, corner, MODEL, order, [9], -1, -1)
        for wrong, at in (([3], 0), ([-1], 0), ([0, 0], 1), ([0, 1, 2, 3], 3), ([2, 1, 2], 2), ([10 ** 30], 0)):
            fails(self, BadWish, at, pairing, MODEL, good, wrong)
            fails(self, BadWish, at, corner, MODEL, good, wrong, -1, -1)
        for i in (-1, 5, 10 ** 30):
            fails(self, OutOfRange, i, corner, MODEL, good, wishes, i, 2)
            fails(self, OutOfRange, i, corner, MODEL, good, wishes, i, 99)
        for k in (-1, 4, -(10 ** 30)):
            fails(self, OutOfRange, k, corner, MODEL, good, wishes, 4, k)
        self.assertEqual(corner(MODEL, good, wishes, 4, 3), 3)


if __name__ == "__main__":
    unittest.main()
