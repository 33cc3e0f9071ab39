import random
import time
import unittest
from fractions import Fraction

from tests.helpers import fails, fresh
from tests.slow_values import dict_of, pair, slow_groups, slow_leading, slow_times, slow_value, square_models
from tests.test_groups import RING, full_models
from unsaidsizes.errors import NotFull, NotSquare, OutOfRange, TooLarge, TooMany
from unsaidsizes.models.model import sizes_of
from unsaidsizes.ranks.assign import rank
from unsaidsizes.values.groups import groups
from unsaidsizes.values.leading import factor, polynomial, value_of


def ring(n, number=1):
    """A ring of n sized laws; and one exact law for a further quantity."""
    laws = [("sized", 0, j, [(f"s{j}", 0, (j + 1) % n)], "") for j in range(n)]
    return ([f"q{j}" for j in range(n + 1)], laws + [("exact", [(number, 1, n)], "")])


class TestPolynomial(unittest.TestCase):
    def test_told(self):
        self.assertEqual(fresh(self, polynomial, RING, 0), [([], 1), ([0, 1], -1)])
        self.assertEqual(fresh(self, polynomial, RING, 1), [([2], 1)])
        for model, told in (
                ((["a"], [("sized", 0, 0, [("s", 1, 0), ("t", 2, 0)], "")]), [([1], 1)]),
                ((["a", "b"], [("sized", 0, 0, [("s", 0, 1)], ""), ("exact", [(4, 0, 0), (-6, 0, 1)], "")]), [([], 3), ([0], -2)]),
                ((["a", "b"], [("sized", 0, 0, [("s", 0, 1)], ""), ("exact", [(-4, 0, 0), (-6, 0, 1)], "")]), [([], 3), ([0], 2)]),
                ((["a", "b", "c"], [("sized", 0, 0, [("s", 0, 1), ("t", 0, 2)], ""), ("sized", 0, 1, [("u", 0, 0), ("v", 0, 2)], ""),
                                    ("exact", [(1, 0, 0), (1, 0, 1), (1, 0, 2)], "")]),
                 [([], 1), ([0, 2], -1), ([0, 3], 1), ([1], 1), ([1, 2], 1), ([3], 1)])):
            self.assertEqual(fresh(self, polynomial, model, 0), told)
            self.assertEqual(len(groups(model)), 1)

    def test_errors(self):
        for k in (-1, 2, 3, 10 ** 30):
            fails(self, OutOfRange, k, polynomial, RING, k)
        fails(self, OutOfRange, 0, polynomial, ([], []), 0)
        for n, many in ((8, None), (9, 9), (12, 12)):
            if many is None:
                self.assertEqual(polynomial(ring(n), 0), [([], 1), (list(range(n)), -1)])
                self.assertEqual(factor(ring(n, -7)), -7)
            else:
                fails(self, TooMany, many, polynomial, ring(n), 0)
                fails(self, TooMany, many, factor, ring(n))
                fails(self, OutOfRange, 1, polynomial, ring(n), 1)
        wide, large = (["a", "b"], [("exact", [], "")]), ([f"q{j}" for j in range(17)], [("exact", [], "")] * 17)
        for function, more in ((polynomial, (9,)), (factor, ())):
            fails(self, NotSquare, 1, function, wide, *more)
            fails(self, TooLarge, 17, function, large, *more)
            fails(self, NotFull, 0, function, (["a"], [("exact", [], "")]), *more)

    def test_first_wide_group(self):
        one, two = ring(9)[1][:9], ring(10)[1][:10]
        more = [("sized", 0, j + 2, [(f"t{j}", 0, (j + 1) % 10 + 2)], "") for j in range(10)]
        model = ([f"q{j}" for j in range(12)], [("sized", 0, 0, [("a", 0, 1)], ""), ("sized", 0, 1, [("b", 0, 0)], "")] + more)
        self.assertEqual(len(one) + len(two), 19)
        self.assertEqual(polynomial(model, 0), [([], 1), ([0, 1], -1)])
        fails(self, TooMany, 10, polynomial, model, 1)
        fails(self, TooMany, 10, factor, model)

    def test_small_models(self):
        kinds = {}
        for model in square_models(500, 1010):
            leading = slow_leading(model)
            if leading is None:
                fails(self, NotFull, rank(model), factor, model)
                continue
            told = groups(model)
            wide = [len(one) for one in told if len(one) > 8]
            if wide:
                fails(self, TooMany, wide[0], factor, model)
                continue
            number = fresh(self, factor, model)
            product = {frozenset(): number}
            for k, own in enumerate(told):
                one = fresh(self, polynomial, model, k)
                self.assertEqual([sizes for sizes, _ in one], sorted(sizes for sizes, _ in one))
                self.assertTrue(all(sizes == sorted(set(sizes)) for sizes, _ in one))
                self.assertTrue(one[0][1] > 0 and all(number for _, number in one))
                self.assertEqual(sorted({size for sizes, _ in one for size in sizes}), own)
                self.assertEqual(slow_groups(dict_of(one)), [own])
                product = slow_times(product, dict_of(one))
            self.assertEqual(product, leading)
            kinds[number > 0] = kinds.get(number > 0, 0) + 1
        self.assertGreater(min(kinds.values()), 50)

    def test_great_numbers(self):
        begun = time.monotonic()
        chance = random.Random(1011)
        # Eight sized laws and eight dense exact ones in one block.
        laws = [("exact", [(chance.randint(1, 1000000), k, j) for j in range(16) for k in range(3)], "") for _ in range(8)]
        laws += [("sized", 2, j, [(f"s{j}", 2, j + 8)], "") for j in range(8)]
        model = ([f"q{j}" for j in range(16)], laws)
        self.assertEqual(groups(model), [list(range(8))])
        one = polynomial(model, 0)
        self.assertGreater(len(one), 200)
        sizes = [(chance.randint(-9, 9), chance.randint(1, 9)) for _ in range(8)]
        sizes = [pair(Fraction(*size)) for size in sizes]
        self.assertNotEqual(value_of(one, sizes), (0, 1))
        self.assertNotEqual(factor(model), 0)
        self.assertLess(time.monotonic() - begun, 30)


class TestValueOf(unittest.TestCase):
    def test_told(self):
        for told, sizes, value in (
                ([], [], (0, 1)), ([], [(1, 2)], (0, 1)), ([([], 5)], [], (5, 1)), ([([], -5), ([0], 10)], [(1, 2)], (0, 1)),
                ([([0, 1], 6)], [(1, 4), (-2, 3)], (-1, 1)), ([([], 1), ([1], 1)], [(7, 1), (1, 3)], (4, 3)),
                ([([0], 10 ** 40)], [(1, 10 ** 50)], (1, 10 ** 10)), ([([0], 2), ([0, 1], 3)], [(0, 1), (5, 1)], (0, 1))):
            self.assertEqual(fresh(self, value_of, told, sizes), value)
        for told, many, at in (
                ([([0], 1)], 0, 0), ([([], 1), ([0, 2], 1), ([1, 5], 1)], 2, 2), ([([3], 1), ([1], 1)], 1, 3), ([([0, 1, 2], 1), ([7], 1)], 3, 7),
                ([([-1], 1)], 3, -1), ([([0], 1), ([10 ** 30], 1)], 1, 10 ** 30), ([([5, 4], 1)], 2, 5)):
            fails(self, OutOfRange, at, value_of, told, [(1, 1)] * many)

    def test_made_up(self):
        chance = random.Random(1012)
        for model in full_models(120, 1013):
            sizes = [pair(Fraction(chance.randint(-9, 9), chance.randint(1, 9))) for _ in sizes_of(model)]
            for k, own in enumerate(groups(model)):
                if len(own) <= 8:
                    told = polynomial(model, k)
                    self.assertEqual(value_of(told, sizes), pair(slow_value(dict_of(told), sizes)))


if __name__ == "__main__":
    unittest.main()
