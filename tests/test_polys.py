import random
import unittest

from tests.helpers import fresh
from unsaidsizes.base.polys import degree, is_polynomial, plus, raised, scaled, times, trimmed, value

BIG = 10 ** 30


def made_up(chance, most=40, number=BIG):
    numbers = [chance.choice([0, chance.randint(-number, number)]) for _ in range(chance.randint(0, most + 1))]
    while numbers and numbers[-1] == 0:
        numbers[-1] = chance.randint(-number, number)
    return numbers


class TestPolys(unittest.TestCase):
    def test_is_polynomial(self):
        for numbers in ([], [1], [-1], [0, 0, 3], [0, -BIG]):
            self.assertIs(is_polynomial(numbers), True)
        for numbers in ([0], [1, 0], [0, 0], [BIG, 5, 0]):
            self.assertIs(is_polynomial(numbers), False)

    def test_trimmed(self):
        for numbers, told in (([], []), ([0], []), ([0, 0, 0], []), ([0, 1, 0, 0], [0, 1]), ([3], [3]),
                              ([0, 0, -2], [0, 0, -2]), ([1, 0, 0, 1, 0], [1, 0, 0, 1])):
            self.assertEqual(fresh(self, trimmed, numbers), told)

    def test_degree(self):
        self.assertEqual(degree([]), -1)
        self.assertEqual(degree([5]), 0)
        self.assertEqual(degree([0, 0, 1]), 2)
        self.assertEqual(degree([0] * 40 + [1]), 40)

    def test_value(self):
        self.assertEqual(value([], 7), 0)
        self.assertEqual(value([5], -1000), 5)
        self.assertEqual(value([1, 2, 3], 10), 321)
        self.assertEqual(value([1, 2, 3], 0), 1)
        self.assertEqual(value([1, 2, 3], -1), 2)
        self.assertEqual(value([0] * 40 + [BIG], -1000), BIG * 1000 ** 40)
        self.assertEqual(value([0] * 39 + [-BIG], -1000), BIG * 1000 ** 39)
        chance = random.Random(1)
        for _ in range(50):
            one, at = made_up(chance), chance.randint(-1000, 1000)
            self.assertEqual(value(one, at), sum(number * at ** k for k, number in enumerate(one)))

    def test_plus(self):
        self.assertEqual(fresh(self, plus, [], []), [])
        self.assertEqual(fresh(self, plus, [1, 2], []), [1, 2])
        self.assertEqual(fresh(self, plus, [], [0, 3]), [0, 3])
        self.assertEqual(fresh(self, plus, [1, 2, 3], [1, 0, -3]), [2, 2])
        self.assertEqual(fresh(self, plus, [1, 2, 3], [-1, -2, -3]), [])
        self.assertEqual(fresh(self, plus, [0, 5, -BIG], [7, 0, BIG]), [7, 5])
        self.assertEqual(fresh(self, plus, [1], [0, 0, 1]), [1, 0, 1])

    def test_times(self):
        self.assertEqual(fresh(self, times, [1, 2], [0, 3]), [0, 3, 6])
        self.assertEqual(fresh(self, times, [1, 2], []), [])
        self.assertEqual(fresh(self, times, [], [1, 2]), [])
        self.assertEqual(fresh(self, times, [1, 1], [-1, 1]), [-1, 0, 1])
        self.assertEqual(fresh(self, times, [0] * 40 + [BIG], [0] * 40 + [-BIG]), [0] * 80 + [-BIG * BIG])

    def test_sums_and_products_by_values(self):
        chance = random.Random(2)
        for _ in range(60):
            one, two = made_up(chance), made_up(chance)
            at = chance.randint(-1000, 1000)
            both, product = plus(one, two), times(one, two)
            self.assertTrue(is_polynomial(both) and is_polynomial(product))
            self.assertEqual(value(both, at), value(one, at) + value(two, at))
            self.assertEqual(value(product, at), value(one, at) * value(two, at))
            if one and two:
                self.assertEqual(degree(product), degree(one) + degree(two))
            self.assertEqual(plus(one, scaled(one, -1)), [])

    def test_scaled(self):
        self.assertEqual(fresh(self, scaled, [1, 0, -2], 3), [3, 0, -6])
        self.assertEqual(fresh(self, scaled, [1, 0, -2], 1), [1, 0, -2])
        self.assertEqual(fresh(self, scaled, [1, 0, -2], 0), [])
        self.assertEqual(fresh(self, scaled, [], 5), [])
        self.assertEqual(fresh(self, scaled, [BIG], -BIG), [-BIG * BIG])

    def test_raised(self):
        self.assertEqual(fresh(self, raised, [1, 2], 2), [0, 0, 1, 2])
        self.assertEqual(fresh(self, raised, [1, 2], 0), [1, 2])
        self.assertEqual(fresh(self, raised, [], 5), [])
        self.assertEqual(fresh(self, raised, [], 0), [])
        self.assertEqual(fresh(self, raised, [-1] * 41, 40), [0] * 40 + [-1] * 41)


if __name__ == "__main__":
    unittest.main()
