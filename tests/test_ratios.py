import random
import unittest
from fractions import Fraction

from tests.helpers import fails, fresh
from unsaidsizes.errors import NoRatio, WrongSize
from unsaidsizes.runs.ratios import is_ratio, minus, over, plus, ratio, solved, times


def pair(number):
    return (number.numerator, number.denominator)


class TestRatios(unittest.TestCase):
    def test_ratio(self):
        for n, d, told in ((0, 1, (0, 1)), (0, -7, (0, 1)), (6, 4, (3, 2)), (-6, 4, (-3, 2)), (6, -4, (-3, 2)), (-6, -4, (3, 2)),
                           (5, 5, (1, 1)), (5, -1, (-5, 1)), (10 ** 40, 10 ** 39, (10, 1)), (7, 3, (7, 3))):
            self.assertEqual(ratio(n, d), told)
        for n in (0, 1, -5, 10 ** 30):
            fails(self, NoRatio, n, ratio, n, 0)

    def test_is_ratio(self):
        for told in ((0, 1), (1, 1), (-1, 1), (3, 2), (-3, 2), (10 ** 30, 10 ** 30 + 1), (10 ** 40, 1)):
            self.assertIs(is_ratio(told), True)
        for told in ((0, 0), (0, 2), (0, -1), (1, 0), (2, 4), (-2, 4), (1, -1), (3, -2), (-3, -2), (6, 3), (10 ** 30, 10 ** 29)):
            self.assertIs(is_ratio(told), False)

    def test_four_operations(self):
        chance = random.Random(701)
        numbers = [Fraction(n, d) for n in range(-4, 5) for d in range(1, 5)]
        numbers += [Fraction(chance.randint(-10 ** 6, 10 ** 6), chance.randint(1, 10 ** 6)) for _ in range(40)]
        for one in numbers:
            for two in numbers:
                a, b = pair(one), pair(two)
                self.assertEqual(plus(a, b), pair(one + two))
                self.assertEqual(minus(a, b), pair(one - two))
                self.assertEqual(times(a, b), pair(one * two))
                if two:
                    self.assertEqual(over(a, b), pair(one / two))
                else:
                    fails(self, NoRatio, 0, over, a, b)


class TestSolved(unittest.TestCase):
    def test_told(self):
        self.assertEqual(fresh(self, solved, [], []), [])
        self.assertEqual(fresh(self, solved, [[2]], [(3, 1)]), [(3, 2)])
        self.assertEqual(solved([[-2]], [(3, 5)]), [(-3, 10)])
        self.assertEqual(solved([[0, 1], [1, 0]], [(1, 2), (1, 3)]), [(1, 3), (1, 2)])
        self.assertEqual(solved([[1, 1], [1, -1]], [(0, 1), (0, 1)]), [(0, 1), (0, 1)])

    def test_dependent(self):
        for rows in ([[0]], [[1, 2], [2, 4]], [[1, 2, 3], [4, 5, 6], [7, 8, 9]], [[0, 0], [1, 1]], [[0, 1], [0, 1]]):
            self.assertEqual(solved(rows, [(1, 1)] * len(rows)), None)
            self.assertEqual(solved(rows, [(0, 1)] * len(rows)), None)

    def test_wrong_sizes(self):
        for rows, right in (([], [(1, 1)]), ([[1]], []), ([[1]], [(1, 1), (1, 1)]), ([[1, 2]], [(1, 1)]), ([[]], [(1, 1)]),
                            ([[1, 0], [0, 1]], [(1, 1)]), ([[1, 0], [0]], [(1, 1), (1, 1)]), ([[1, 0], [0, 1, 0]], [(1, 1), (1, 1)]),
                            ([[1, 0, 0], [0, 1]], [(1, 1), (1, 1)]), ([[1, 0], [0, 1], [1, 1]], [(1, 1)] * 3),
                            ([[0, 0], [0]], [(1, 1), (1, 1)])):
            fails(self, WrongSize, 0, solved, rows, right)

    def test_made_up(self):
        chance = random.Random(7011)
        for _ in range(120):
            many = chance.randint(1, 7)
            number = chance.choice([2, 1000000])
            rows = [[chance.randint(-number, number) for _ in range(many)] for _ in range(many)]
            if chance.random() < 0.2 and many > 1:
                rows[-1] = [3 * one for one in rows[0]]
            right = [pair(Fraction(chance.randint(-number, number), chance.randint(1, number))) for _ in rows]
            found = fresh(self, solved, rows, right)
            if found is None:
                # Then the rows are dependent: elimination with fractions finds no pivot.
                left = [[Fraction(one) for one in row] for row in rows]
                rank = 0
                for column in range(many):
                    at = next((k for k in range(rank, many) if left[k][column]), None)
                    if at is not None:
                        left[rank], left[at] = left[at], left[rank]
                        for k in range(rank + 1, many):
                            factor = left[k][column] / left[rank][column]
                            left[k] = [a - factor * b for a, b in zip(left[k], left[rank])]
                        rank += 1
                self.assertLess(rank, many)
                continue
            self.assertTrue(all(is_ratio(one) for one in found))
            for row, own in zip(rows, right):
                self.assertEqual(sum(a * Fraction(*b) for a, b in zip(row, found)), Fraction(*own))


if __name__ == "__main__":
    unittest.main()
