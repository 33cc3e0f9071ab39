import random
import time
import unittest
from fractions import Fraction

from tests.helpers import fresh
from tests.slow_grids import trimmed
from tests.slow_steer import FACTORS, lowest, power, slow_gcd, times
from unsaidsizes.base.lowest import common
from unsaidsizes.base.modular import common_modulo
from unsaidsizes.base.packing import packed, unpacked
from unsaidsizes.steer.gcds import divided, gcd, often, primitive, squarefree


def made(chance, degree, number):
    return [chance.randint(-number, number) for _ in range(degree)] + [chance.choice([-1, 1]) * chance.randint(1, number)]


def slow_divided(one, two):
    """The quotient by long division with fractions, None if it leaves something or is not of integers."""
    rest = [Fraction(number) for number in one]
    found = [0] * max(0, len(one) - len(two) + 1)
    while len(rest) >= len(two):
        factor, low = rest[-1] / two[-1], len(rest) - len(two)
        found[low] = factor
        rest = trimmed(rest[:low] + [c - factor * e for c, e in zip(rest[low:], two)])
    if rest or any(Fraction(number).denominator != 1 for number in found):
        return None
    return [int(number) for number in found]


class TestPacking(unittest.TestCase):
    def test_unpacked(self):
        chance = random.Random(11)
        for _ in range(3000):
            step = chance.randint(2, 9)
            most = 2 ** (step - 1) - 1
            one = trimmed(chance.choice([-most, most, 0, chance.randint(-most, most)]) for _ in range(chance.randint(0, 9)))
            self.assertEqual(unpacked(packed(one, step), step), one)

    def test_long(self):
        one = [(-1) ** k * k for k in range(50000)]
        self.assertEqual(unpacked(packed(one, 20), 20), one)


class TestPrimitive(unittest.TestCase):
    def test_told(self):
        for one, told in (([], []), ([7], [1]), ([-7], [1]), ([1], [1]), ([0, 0, -3], [0, 0, 1]), ([4, 6], [2, 3]), ([4, -6], [-2, 3]),
                          ([-4, -6], [2, 3]), ([3, 5, -7], [-3, -5, 7]), ([10 ** 30, 0, -(10 ** 30)], [-1, 0, 1])):
            self.assertEqual(fresh(self, primitive, one), told)

    def test_made_up(self):
        chance = random.Random(1)
        for _ in range(200):
            one = made(chance, chance.randint(0, 40), 10 ** chance.choice([1, 5, 30]))
            factor = chance.choice([1, -1, 6, 10 ** 6])
            told = primitive([factor * number for number in one])
            self.assertEqual(told, lowest(one))
            self.assertGreater(told[-1], 0)


class TestGcd(unittest.TestCase):
    def test_told(self):
        for one, two, told in (
                ([], [], []), ([], [4, 6], [2, 3]), ([-2, -2], [], [1, 1]), ([5], [7], [1]), ([6], [4], [1]), ([], [-9], [1]),
                ([6, 6], [4, 4], [1, 1]), ([-1, 0, 1], [1, 2, 1], [1, 1]), ([-1, 0, 1], [1, -2, 1], [-1, 1]),
                ([0, 0, 4], [0, 6], [0, 1]), ([0, 0, 4], [0, 0, 0, -6], [0, 0, 1]), ([1, 1], [1, -1], [1]), ([3], [1, 1], [1]),
                ([2, 4], [1, 2], [1, 2]), ([2, 4], [-1, -2], [1, 2]), ([1, 0, 0, 0, -1], [1, 0, -1], [-1, 0, 1])):
            self.assertEqual(fresh(self, gcd, one, two), told, (one, two))
            self.assertEqual(fresh(self, gcd, two, one), told, (one, two))

    def test_products(self):
        chance = random.Random(2)
        for _ in range(150):
            degree, number = chance.choice([(2, 3), (5, 100), (13, 10 ** 9)])
            one, two, three = (made(chance, chance.randint(0, degree), number) for _ in range(3))
            if chance.random() < 0.3:
                one, two = times([0, 0, 1], one), times([0, 5], two)
            told = fresh(self, gcd, times(one, three), times(two, three))
            self.assertEqual(told, slow_gcd(times(one, three), times(two, three)))
            self.assertIsNotNone(divided(told, lowest(three)))
            self.assertGreater(told[-1], 0)

    def test_great(self):
        chance = random.Random(3)
        begun = time.monotonic()
        for _ in range(30):
            one, two, three = (made(chance, 20, 10 ** 14) for _ in range(3))
            self.assertEqual(gcd(times(one, three), times(two, three)), lowest(three))
            self.assertEqual(gcd(made(chance, 40, 10 ** 30), made(chance, 40, 10 ** 30)), [1])
            self.assertEqual(gcd(power(made(chance, 2, 9), 20), power(made(chance, 2, 9), 20)), [1])
        self.assertLess(time.monotonic() - begun, 10)

    def test_factors_many_times(self):
        for k in range(6):
            for m in range(6):
                one, two = times(power([1, 1], k), power([-3, 2], m)), times(power([1, 1], m), power([-3, 2], 2))
                self.assertEqual(gcd(one, two), times(power([1, 1], min(k, m)), power([-3, 2], min(m, 2))))

    def test_primes_that_divide(self):
        # Numbers that are 0 or alike for the primes that are tried first.
        for bits in (61, 127, 521):
            prime = 2 ** bits - 1
            self.assertIsNone(common_modulo([1, prime], [1, 1], bits))
            self.assertEqual(gcd([1, prime], [1, 1]), [1])
            self.assertEqual(gcd([1, 1, prime], [1, 1, prime]), [1, 1, prime])
            self.assertEqual(gcd([1 + prime, 1], [1, 1]), [1])
            self.assertEqual(gcd(times([1 + prime, 1], [5, 3]), times([1, 1], [5, 3])), [5, 3])
            self.assertEqual(gcd(times([prime, 5], [1, 1]), [prime, 5]), [prime, 5])
        great = 10 ** 28000
        self.assertEqual(common(times([great, 1], [great + 3, 7]), times([great, 1], [5, 2])), [great, 1])

    def test_long(self):
        begun = time.monotonic()
        self.assertEqual(gcd([1] * 100000, [1, 1]), [1, 1])
        self.assertEqual(gcd([5, 7, 11], [1] * 100001), [1])
        self.assertLess(time.monotonic() - begun, 10)


class TestDivided(unittest.TestCase):
    def test_told(self):
        for one, two, told in (
                ([], [1], []), ([], [1, 1], []), ([7], [1], [7]), ([1], [1, 1], None), ([1, 1], [1, 1], [1]), ([-2, -2], [1, 1], [-2]),
                ([-1, 0, 1], [1, 1], [-1, 1]), ([1, 0, 1], [1, 1], None), ([0, 4], [0, 1], [4]), ([4], [0, 1], None), ([3, 6], [1, 2], [3]),
                ([1, 1], [1, 2], None), ([1, 3, 2], [1, 2], [1, 1]), ([0, 0, 1], [0, 1], [0, 1]), ([1, 2], [1, 3, 2], None)):
            self.assertEqual(fresh(self, divided, one, two), told, (one, two))

    def test_made_up(self):
        chance = random.Random(4)
        for _ in range(300):
            one, two = made(chance, chance.randint(0, 6), 5), lowest(made(chance, chance.randint(0, 3), 5))
            if chance.random() < 0.5:
                one = times(one, two)
            self.assertEqual(fresh(self, divided, one, two), slow_divided(one, two))
        one, two = made(chance, 20, 10 ** 15), lowest(made(chance, 20, 10 ** 15))
        self.assertEqual(divided(times(one, two), two), one)


class TestOften(unittest.TestCase):
    def test_told(self):
        for one, two, told in (([1], [1, 1], 0), ([-5], [0, 1], 0), ([0, 0, 4], [0, 1], 2), ([1, 1], [1, 1], 1), ([1, 2, 1], [1, 1], 2),
                               ([1, 2, 1], [1, 2, 1], 1), ([1, 3, 3, 1], [1, 2, 1], 1), ([-1, 0, 1], [1, 1], 1), ([1, 0, 1], [1, 1], 0)):
            self.assertEqual(fresh(self, often, one, two), told, (one, two))

    def test_powers(self):
        for part in FACTORS:
            for k in range(8):
                for other in ([3], [5, 1], [-7, 0, 2]):
                    self.assertEqual(often(times(power(part, k), other), part), k)


class TestSquarefree(unittest.TestCase):
    def test_told(self):
        for one, told in (([1], [1]), ([-12], [1]), ([0, -4], [0, 1]), ([0, 0, 0, 6], [0, 1]), ([2, 2], [1, 1]), ([1, 2, 1], [1, 1]),
                          ([-1, -2, -1], [1, 1]), ([-1, 0, 1], [-1, 0, 1]), ([0, 0, 1, 2, 1], [0, 1, 1])):
            self.assertEqual(fresh(self, squarefree, one), told, one)

    def test_products_of_powers(self):
        chance = random.Random(5)
        for _ in range(200):
            parts = chance.sample(FACTORS, chance.randint(0, 4))
            one, told = [chance.choice([1, -6, 35])], [1]
            for part in parts:
                one = times(one, power(part, chance.randint(1, 4)))
                told = times(told, part)
            self.assertEqual(squarefree(one), told)

    def test_great(self):
        chance = random.Random(6)
        one, two = made(chance, 8, 10 ** 6), made(chance, 4, 10 ** 6)
        self.assertEqual(squarefree(times(power(one, 3), power(two, 4))), lowest(times(one, two)))
        one = made(chance, 40, 10 ** 30)
        self.assertEqual(squarefree(one), lowest(one))


if __name__ == "__main__":
    unittest.main()
