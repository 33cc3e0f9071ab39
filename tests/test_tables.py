import random
import unittest
from fractions import Fraction

from tests.helpers import fails, fresh, slow_determinant
from unsaidsizes.base.polys import value
from unsaidsizes.base.tables import (
    determinant, multiple_of, number_rank, point, product, rank, reach, value_at)
from unsaidsizes.errors import WrongSize

BIG = 10 ** 30


def slow_rank(rows):
    rows = [[Fraction(number) for number in row] for row in rows]
    found = 0
    for column in range(len(rows[0]) if rows else 0):
        at = next((k for k in range(found, len(rows)) if rows[k][column]), None)
        if at is not None:
            rows[found], rows[at] = rows[at], rows[found]
            for k in range(found + 1, len(rows)):
                factor = rows[k][column] / rows[found][column]
                rows[k] = [own - factor * other for own, other in zip(rows[k], rows[found])]
            found += 1
    return found


def numbers_of(chance, rows, columns, number):
    return [[chance.choice([0, chance.randint(-number, number)]) for _ in range(columns)] for _ in range(rows)]


def table_of(chance, rows, columns, degrees, number):
    def one():
        numbers = [chance.randint(-number, number) for _ in range(chance.randint(0, degrees + 1))]
        while numbers and numbers[-1] == 0:
            numbers.pop()
        return numbers
    return [[one() for _ in range(columns)] for _ in range(rows)]


class TestNumberTables(unittest.TestCase):
    def test_rank_of_few(self):
        self.assertEqual(number_rank([]), 0)
        self.assertEqual(number_rank([[], [], []]), 0)
        self.assertEqual(number_rank([[0, 0], [0, 0]]), 0)
        self.assertEqual(number_rank([[0, 2], [0, -3]]), 1)
        self.assertEqual(number_rank([[0, 1], [1, 0], [1, 1]]), 2)
        self.assertEqual(number_rank([[1, 2, 3], [2, 4, 6], [0, 0, 1]]), 2)
        self.assertEqual(number_rank([[0, 0, 0, 5]]), 1)

    def test_rank_by_fractions(self):
        chance = random.Random(3)
        for _ in range(120):
            rows = numbers_of(chance, chance.randint(1, 12), chance.randint(1, 12), chance.choice([1, 3, BIG]))
            if chance.random() < 0.5:
                rows.append([own + 2 * other for own, other in zip(rows[0], rows[-1])])
                rows.append([-own for own in rows[0]])
                chance.shuffle(rows)
            self.assertEqual(fresh(self, number_rank, rows), slow_rank(rows))

    def test_determinant_of_few(self):
        self.assertEqual(determinant([]), 1)
        self.assertEqual(determinant([[-5]]), -5)
        self.assertEqual(determinant([[0, 1], [1, 0]]), -1)
        self.assertEqual(determinant([[0, 0, 1], [1, 0, 0], [0, 1, 0]]), 1)
        self.assertEqual(determinant([[1, 2], [2, 4]]), 0)
        self.assertEqual(determinant([[0, 0], [0, 0]]), 0)
        self.assertEqual(determinant([[0, 2, 3], [0, 4, 5], [0, 6, 7]]), 0)
        self.assertEqual(determinant([[BIG, 1], [1, BIG]]), BIG * BIG - 1)

    def test_determinant_by_definition(self):
        chance = random.Random(4)
        for _ in range(80):
            many = chance.randint(1, 5)
            rows = numbers_of(chance, many, many, chance.choice([1, 4, BIG]))
            told = slow_determinant([[{0: number} if number else {} for number in row] for row in rows])
            self.assertEqual(fresh(self, determinant, rows), told.get(0, 0))

    def test_determinant_of_twelve(self):
        chance = random.Random(5)
        rows = numbers_of(chance, 12, 12, BIG)
        turned = [list(row) for row in zip(*rows)]
        self.assertEqual(determinant(rows), determinant(turned))
        self.assertEqual(determinant(rows[::-1]), determinant(rows))
        self.assertEqual(determinant([rows[1], rows[0]] + rows[2:]), -determinant(rows))
        self.assertEqual(determinant(rows) != 0, number_rank(rows) == 12)

    def test_determinant_needs_a_square(self):
        for rows in ([[]], [[1, 2]], [[1], [2]], [[1, 2, 3], [4, 5, 6]], [[], []]):
            fails(self, WrongSize, 0, determinant, rows)


class TestTables(unittest.TestCase):
    def test_value_at(self):
        self.assertEqual(value_at([], 3), [])
        self.assertEqual(fresh(self, value_at, [[], []], 3), [[], []])
        self.assertEqual(fresh(self, value_at, [[[], [1, 1]], [[0, 0, 2], [-5]]], -3), [[0, -2], [18, -5]])
        self.assertEqual(value_at([[[0] * 12 + [BIG]]], 1000), [[BIG * 1000 ** 12]])

    def test_product_of_few(self):
        one = [[[1], [0, 1]], [[], [2]]]
        two = [[[1, 1], [], [3]], [[0, 1], [1], []]]
        self.assertEqual(fresh(self, product, one, two), [[[1, 1, 1], [0, 1], [3]], [[0, 2], [2], []]])
        self.assertEqual(fresh(self, product, [[[0, 1], [1]]], [[[1]], [[0, -1]]]), [[[]]])

    def test_product_without_rows_or_columns(self):
        self.assertEqual(fresh(self, product, [], [[[1]], [[2]]]), [])
        self.assertEqual(product([], []), [])
        self.assertEqual(fresh(self, product, [[], []], []), [[], []])
        self.assertEqual(fresh(self, product, [[[1]], [[2]]], [[]]), [[], []])
        fails(self, WrongSize, 0, product, [[[1], [2]]], [])
        fails(self, WrongSize, 0, product, [[], []], [[]])
        fails(self, WrongSize, 0, product, [[]], [[[1]]])
        fails(self, WrongSize, 0, product, [[[1], [2]]], [[[1]]])
        fails(self, WrongSize, 0, product, [[[1]]], [[[1]], [[1]]])

    def test_product_by_values(self):
        chance = random.Random(6)
        for _ in range(30):
            sizes = [chance.randint(1, 6) for _ in range(3)]
            one = table_of(chance, sizes[0], sizes[1], 12, BIG)
            two = table_of(chance, sizes[1], sizes[2], 12, BIG)
            at = chance.randint(-50, 50)
            told = product(one, two)
            for i in range(sizes[0]):
                for j in range(sizes[2]):
                    self.assertTrue(told[i][j] == [] or told[i][j][-1] != 0)
                    total = sum(value(one[i][k], at) * value(two[k][j], at) for k in range(sizes[1]))
                    self.assertEqual(value(told[i][j], at), total)

    def test_reach(self):
        self.assertEqual(reach([]), 0)
        self.assertEqual(reach([[], []]), 0)
        self.assertEqual(reach([[[], []], [[1], [0, 0, 1]], [[0, 1], [5]]]), 3)
        self.assertEqual(reach([[[3]], [[0] * 12 + [1]]]), 12)

    def test_rank_and_point_of_few(self):
        for table, told in (([], (0, 0)), ([[], []], (0, 0)), ([[[]]], (0, 0)), ([[[0, 1]]], (1, 1)),
                            ([[[0, -1, 1]]], (1, 2)), ([[[0, 2, -3, 1]]], (1, 3)), ([[[5]]], (1, 0)),
                            ([[[0, 1], [1]], [[0, 0, 1], [0, 1]]], (1, 0)),
                            ([[[0, 1], []], [[], [-1, 1]]], (2, 2)),
                            ([[[24, -50, 35, -10, 1]]], (1, 0)),
                            ([[[0, -6, 11, -6, 1]]], (1, 4)),
                            ([[[0, -6, 11, -6, 1], []], [[], [-4, 1]]], (2, 5))):
            self.assertEqual((rank(table), point(table)), told, table)

    def test_rank_and_point_by_values(self):
        chance = random.Random(7)
        for _ in range(60):
            rows, columns = chance.randint(1, 6), chance.randint(1, 6)
            table = table_of(chance, rows, columns, chance.randint(0, 4), chance.choice([1, 2]))
            if rows > 1 and chance.random() < 0.7:
                # A row that is a multiple of another one, and zeros at 0, 1 and 2.
                table[-1] = product([[[0, 2, -3, 1]]], [table[0]])[0]
            ranks = [slow_rank(value_at(table, at)) for at in range(reach(table) + 1)]
            self.assertEqual(fresh(self, rank, table), max(ranks))
            self.assertEqual(fresh(self, point, table), ranks.index(max(ranks)))

    def test_rank_of_twelve(self):
        chance = random.Random(8)
        table = table_of(chance, 12, 12, 4, BIG)
        table[11] = [list(one) for one in table[0]]
        table[10] = [[0] + one if one else [] for one in table[1]]
        table[10] = [one[:5] for one in table[10]]
        told = rank(table)
        self.assertEqual(told, max(slow_rank(value_at(table, at)) for at in (3, 977)))
        self.assertLessEqual(point(table), reach(table))

    def test_multiple_of(self):
        self.assertEqual(multiple_of([]), 1)
        self.assertEqual(multiple_of([[[7]]]), 7)
        for c in (1, -1, BIG):
            table = [[[c] if i == j else [] for j in range(4)] for i in range(4)]
            self.assertEqual(fresh(self, multiple_of, table), c)
            for i in range(4):
                for j in range(4):
                    for other in ([], [c + 1], [0, 1], [c, 1], [-c]):
                        changed = [list(row) for row in table]
                        changed[i][j] = other
                        if changed != table:
                            self.assertIsNone(multiple_of(changed), changed)
        for table in ([[]], [[], []], [[[1], []]], [[[1]], [[]]], [[[]]], [[[], []], [[], []]], [[[0, 1]]],
                      [[[1], [], []], [[], [1], []]], [[[1], []], [[], [1]], [[], []]]):
            self.assertIsNone(multiple_of(table), table)


if __name__ == "__main__":
    unittest.main()
