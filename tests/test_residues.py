"""The residues are not told by the document, but all exact ranks hang on them."""

import random
import unittest
from itertools import combinations

from tests.helpers import slow_determinant
from unsaidsizes.base.lowest import common, lowest_forms, whole_quotient
from unsaidsizes.base.polys import times
from unsaidsizes.base.residues import EXPONENTS, is_regular, pivots, regular_columns, residue_rank, residues
from unsaidsizes.base.tables import determinant, rank
from unsaidsizes.ranks.assign import exact_rank


def is_mersenne(bits):
    """The test of Lucas and Lehmer for 2^bits - 1."""
    prime = (1 << bits) - 1
    number = 4
    for _ in range(bits - 2):
        number = number * number - 2
        number = (number & prime) + (number >> bits)
        number = (number & prime) + (number >> bits)
    return number % prime == 0


class TestResidues(unittest.TestCase):
    def test_primes(self):
        self.assertEqual(list(EXPONENTS), sorted(EXPONENTS))
        for bits in EXPONENTS:
            if bits < 12000:
                self.assertTrue(is_mersenne(bits), bits)

    def test_all_determinants(self):
        chance = random.Random(91)
        for _ in range(60):
            many = chance.randint(1, 4)
            number = chance.choice([1, 2, 1000000])
            table = [[[chance.randint(-number, number) for _ in range(chance.randint(0, 3))] for _ in range(many + 1)]
                     for _ in range(many)]
            for row in table:
                for one in row:
                    while one and one[-1] == 0:
                        one.pop()
            if many > 1 and chance.random() < 0.5:
                table[0] = [times([1, -1], one) for one in table[1]]
            rows, bits = residues(table)
            for size in range(1, many + 1):
                for own in combinations(range(many), size):
                    for columns in combinations(range(many + 1), size):
                        part = [[table[i][j] for j in columns] for i in own]
                        told = slow_determinant([[{k: c for k, c in enumerate(one) if c} for one in row] for row in part])
                        residue = determinant([[rows[i][j] for j in columns] for i in own]) % ((1 << bits) - 1)
                        self.assertEqual(residue != 0, bool(told))
                        self.assertIs(is_regular(part), bool(told))
            self.assertEqual(residue_rank(rows, bits), rank(table))
            found = pivots(rows, bits)
            self.assertEqual(len(found), rank(table))
            self.assertEqual(len(set(found)), len(found))
            if rank(table) == many:
                columns = regular_columns(table)
                self.assertTrue(is_regular([[row[j] for j in columns] for row in table]))

    def test_zeros_at_powers_of_two(self):
        for k in range(20):
            self.assertEqual(exact_rank((["a"], [("exact", [(-(1 << k), 0, 0), (1, 1, 0)], "")]), [0]), 1)
            self.assertTrue(is_regular([[[-(1 << k), 1]]]))

    def test_values_that_the_least_prime_divides(self):
        # At 2^21 the value is 150000 * 2^63 - 600000, and 2^63 is 4 for the prime 2^61 - 1.
        self.assertEqual(exact_rank((["a"], [("exact", [(-600000, 0, 0), (150000, 3, 0)], "")]), [0]), 1)
        # And at 2^10, which is tried first: 2^60 times 2 is 1.
        model = (["a", "b", "c"], [("exact", [(1, 3, 0), (2, 0, 1)], ""), ("exact", [(1, 3, 1), (-1, 0, 0)], "")])
        self.assertEqual(exact_rank(model, [0, 1]), 2)
        self.assertTrue(is_regular([[[0, 0, 0, 1], [2]], [[-1], [0, 0, 0, 1]]]))
        self.assertTrue(is_regular([[[-1, 0, 0, 0, 0, 0, 2]]]))


class TestLowest(unittest.TestCase):
    def test_common(self):
        self.assertEqual(common([], [4, 6]), [2, 3])
        self.assertEqual(common([2, 2], []), [1, 1])
        self.assertIn(common([-1, 0, 1], [1, 2, 1]), ([1, 1], [-1, -1]))
        self.assertIn(common([2, 2], [3]), ([1], [-1]))
        self.assertIn(common([0, 0, 4], [0, 6]), ([0, 1], [0, -1]))

    def test_products(self):
        chance = random.Random(92)
        for _ in range(100):
            one, two, three = [[chance.randint(-9, 9) for _ in range(chance.randint(0, 4))] + [chance.choice([-2, 1, 3])]
                               for _ in range(3)]
            self.assertEqual(whole_quotient(times(one, two), two), one)
            shared = common(times(one, three), times(two, three))
            self.assertEqual(times(whole_quotient(times(three, shared), three), three), times(shared, three))
            self.assertGreaterEqual(len(shared), len(three))
            many = lowest_forms([times(one, three), [], times(two, three)])
            self.assertEqual(many[1], [])
            self.assertEqual(times(many[0], two), times(many[2], one))
            self.assertLessEqual(len(many[0]), len(one))


if __name__ == "__main__":
    unittest.main()
