"""One size, and sizes above 0."""

import random
import time
import unittest
from fractions import Fraction

from tests.helpers import fails, fresh
from tests.slow_values import dict_of, pair, slow_leading, slow_value
from tests.test_groups import RING, full_models
from tests.test_leading import ring
from unsaidsizes.errors import NotFull, NotSquare, OutOfRange, TooLarge, TooMany, WrongSize
from unsaidsizes.models.model import sizes_of
from unsaidsizes.runs.ratios import is_ratio
from unsaidsizes.runs.said import is_ordinary
from unsaidsizes.values.groups import groups
from unsaidsizes.values.leading import polynomial
from unsaidsizes.values.one import alone, forbidden
from unsaidsizes.values.sure import is_sure, weak_sizes

WRONG = ((NotSquare, 1, (["a", "b"], [("exact", [], "")])), (TooLarge, 17, ([f"q{j}" for j in range(17)], [("exact", [], "")] * 17)),
         (NotFull, 0, (["a"], [("exact", [], "")])))


class TestForbidden(unittest.TestCase):
    def test_told(self):
        for sizes, k, told in (
                ([(0, 1), (2, 1), (1, 1), (1, 1)], 0, ("once", (1, 2))), ([(9, 7), (2, 1), (1, 1), (1, 1)], 0, ("once", (1, 2))),
                ([(3, 2), (0, 1), (1, 1), (1, 1)], 1, ("once", (2, 3))), ([(0, 1), (0, 1), (1, 1), (1, 1)], 1, ("never",)),
                ([(-5, 1), (0, 1), (0, 1), (1, 1)], 1, ("always",)), ([(2, 1), (2, 1), (4, 1), (1, 1)], 2, ("once", (0, 1))),
                ([(2, 1), (1, 2), (4, 1), (1, 1)], 2, ("always",)), ([(2, 1), (1, 2), (4, 1), (1, 1)], 3, ("always",)),
                ([(2, 1), (1, 3), (4, 1), (1, 1)], 3, ("never",)), ([(2, 1), (1, 3), (0, 1), (1, 1)], 3, ("always",)),
                ([(0, 1), (10 ** 40, 3), (1, 1), (1, 1)], 0, ("once", (3, 10 ** 40))), ([(2, 1), (1, 1), (0, 1), (1, 1)], 0, ("always",))):
            self.assertEqual(fresh(self, forbidden, RING, sizes, k), told, (sizes, k))

    def test_small_models(self):
        chance = random.Random(1006)
        kinds = {}
        for model in full_models(400, 1014):
            many, leading = len(sizes_of(model)), slow_leading(model)
            for k in range(many):
                sizes = [chance.choice([(0, 1), (1, 1), (1, 1), (-1, 1), (2, 1), (1, 2)]) for _ in range(many)]
                told = fresh(self, forbidden, model, sizes, k)
                low, high = (slow_value(leading, sizes[:k] + [at] + sizes[k + 1:]) for at in ((0, 1), (1, 1)))
                if low == high:
                    self.assertEqual(told, ("never",) if low else ("always",))
                else:
                    self.assertEqual(told, ("once", pair(-low / (high - low))))
                    self.assertIs(is_ordinary(model, sizes[:k] + [told[1]] + sizes[k + 1:]) if max(map(abs, told[1])) <= 1000 else False, False)
                # What stands at the index itself plays no part.
                self.assertEqual(forbidden(model, sizes[:k] + [(77, 5)] + sizes[k + 1:], k), told)
                kinds[told[0]] = kinds.get(told[0], 0) + 1
        self.assertGreater(min(kinds[kind] for kind in ("never", "always", "once")), 50)

    def test_errors(self):
        for error, at, model in WRONG:
            fails(self, error, at, forbidden, model, [(1, 1)], 9)
            fails(self, error, at, alone, model, 9)
        for many in (0, 3, 5):
            fails(self, WrongSize, many, forbidden, RING, [(1, 1)] * many, 9)
        for k in (-1, 4, 10 ** 30):
            fails(self, OutOfRange, k, forbidden, RING, [(1, 1)] * 4, k)
            fails(self, OutOfRange, k, alone, RING, k)
        fails(self, OutOfRange, 0, forbidden, ([], []), [], 0)
        # The number of sizes of a group is not bounded here.
        self.assertEqual(forbidden(ring(12), [(2, 1)] * 12, 3), ("once", (1, 2 ** 11)))


class TestAlone(unittest.TestCase):
    def test_told(self):
        self.assertEqual([fresh(self, alone, RING, k) for k in range(4)], [None, None, (0, 1), None])
        model = (["a", "b"], [("sized", 0, 0, [("s", 0, 1), ("t", 1, 1)], ""), ("exact", [(4, 0, 0), (-6, 0, 1)], "")])
        self.assertEqual([alone(model, k) for k in range(2)], [None, (0, 1)])
        model = (["a", "b"], [("sized", 0, 0, [("s", 0, 1)], ""), ("exact", [(4, 0, 0), (-6, 0, 1)], "")])
        self.assertEqual(alone(model, 0), (3, 2))

    def test_small_models(self):
        chance = random.Random(1015)
        found = 0
        for model in full_models(300, 1016):
            leading, told = slow_leading(model), groups(model)
            for k in range(len(sizes_of(model))):
                number = fresh(self, alone, model, k)
                self.assertIs(number is not None, [k] in told)
                if number is not None:
                    found += 1
                    self.assertTrue(is_ratio(number))
                    for _ in range(3):
                        sizes = [(chance.randint(-5, 5), 1) for _ in sizes_of(model)]
                        sizes[k] = number
                        self.assertEqual(slow_value(leading, sizes), 0)
        self.assertGreater(found, 50)


class TestSure(unittest.TestCase):
    def test_told(self):
        self.assertIs(fresh(self, is_sure, RING, 0), False)
        self.assertIs(fresh(self, is_sure, RING, 1), True)
        self.assertIsNone(fresh(self, weak_sizes, RING, 1))
        one, two = fresh(self, weak_sizes, RING, 0)
        self.assertEqual(Fraction(*one) * Fraction(*two), 1)
        plus = (["a", "b"], [("sized", 0, 0, [("s", 0, 1)], ""), ("exact", [(4, 0, 0), (6, 0, 1)], "")])
        minus = (["a", "b"], [("sized", 0, 0, [("s", 0, 1)], ""), ("exact", [(4, 0, 0), (-6, 0, 1)], "")])
        self.assertIs(is_sure(plus, 0), True)
        self.assertIs(is_sure(minus, 0), False)
        self.assertEqual(weak_sizes(minus, 0), [(3, 2)])

    def test_rings(self):
        for n in range(2, 9):
            self.assertIs(is_sure(ring(n), 0), False)
            product = Fraction(1)
            for size in weak_sizes(ring(n), 0):
                product *= Fraction(*size)
            self.assertEqual(product, 1)
        for n in (9, 11):
            for function in (is_sure, weak_sizes):
                fails(self, TooMany, n, function, ring(n), 0)
                fails(self, OutOfRange, 1, function, ring(n), 1)

    def test_small_models(self):
        kinds = {True: 0, False: 0}
        for model in full_models(500, 1017):
            for k, own in enumerate(groups(model)):
                if len(own) > 8:
                    continue
                told = polynomial(model, k)
                sure = fresh(self, is_sure, model, k)
                self.assertIs(sure, all(number > 0 for _, number in told))
                sizes = fresh(self, weak_sizes, model, k)
                self.assertIs(sizes is None, sure)
                kinds[sure] += 1
                if sizes is not None:
                    self.assertEqual(len(sizes), len(own))
                    self.assertTrue(all(is_ratio(size) and size[0] > 0 for size in sizes))
                    self.assertEqual(slow_value(dict_of(told), dict(zip(own, sizes))), 0)
        self.assertGreater(min(kinds.values()), 50)

    def test_great_group(self):
        begun = time.monotonic()
        chance = random.Random(1018)
        for sign in (1, -1):
            laws = [("exact", [(chance.randint(1, 1000000) * (sign if j > 7 else 1), 2, j) for j in range(16)], "") for _ in range(8)]
            laws += [("sized", 2, j, [(f"s{j}", 2, j + 8)], "") for j in range(8)]
            model = ([f"q{j}" for j in range(16)], laws)
            sizes, told = weak_sizes(model, 0), polynomial(model, 0)
            self.assertEqual(slow_value(dict_of(told), sizes), 0)
            self.assertTrue(all(size[0] > 0 for size in sizes))
        self.assertLess(time.monotonic() - begun, 30)

    def test_errors(self):
        for error, at, model in WRONG:
            for function in (is_sure, weak_sizes):
                fails(self, error, at, function, model, 9)
        for k in (-1, 2, 10 ** 30):
            fails(self, OutOfRange, k, is_sure, RING, k)
            fails(self, OutOfRange, k, weak_sizes, RING, k)


if __name__ == "__main__":
    unittest.main()
