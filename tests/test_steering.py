import random
import time
import unittest

from tests.helpers import Chosen, fails, fresh, made_up, mutated, slow_touched, small_models
from tests.slow_grids import slow_beginnings
from tests.slow_steer import (
    made_tied, slow_check_factor, slow_factor, slow_unsteered, slow_ways, steered_models, times)
from tests.test_assign import slow_is_assignment
from tests.test_beginnings import slow_changed, slow_check, slow_is_inverse
from tests.test_graph import slow_arcs, slow_left_out
from unsaidsizes.begin.relax import beginnings, check_beginnings
from unsaidsizes.blocks.tied import loose
from unsaidsizes.errors import NotFull, TooLarge, WrongSize
from unsaidsizes.marks.grids import grid_of
from unsaidsizes.ranks.assign import rank
from unsaidsizes.steer.factor import check_factor, exact_factor
from unsaidsizes.steer.steering import check_steering, split, steering, steering_paper, unsteered

# (d + 1) x = u, (d + c) y = v, v = s u.
PAIRS = {c: (["x", "u", "y", "v"], [
    ("exact", [(1, 1, 0), (1, 0, 0), (-1, 0, 1)], ""), ("exact", [(1, 1, 2), (c, 0, 2), (-1, 0, 3)], ""),
    ("sized", 0, 3, [("s", 0, 1)], "")]) for c in (1, 2)}
PAPER = {0: [0], 1: [0], 2: [(0, 0)], 3: [(0, -1)], 4: [[[]], [], 0], 5: [[[]], [], 0]}


def slow_split(model, changes, loose):
    """Point 908, word by word."""
    quantities, laws = model
    many = len(quantities)
    exact = [i for i, told in enumerate(laws) if told[0] == "exact"]
    table = []
    for i in exact:
        row = [[0] * 4 for _ in quantities]
        for number, k, j in laws[i][1]:
            row[j][k] = number
        table.append(("exact", [trim(one) for one in row]))
    rows = [row for _, row in slow_changed_rows(table, changes, many)]
    own = [row for row in rows if any(row[j] for j in loose)]
    if len(own) != Chosen(model).exact_rank(loose):
        return None
    others = [j for j in range(many) if j not in loose]

    def orders(told, columns):
        places = [(told[1], told[2])] + [(k, j) for _, k, j in told[3]]
        return ("sized", [sorted(k for k, b in places if b == j) for j in columns])
    sized = [told for told in laws if told[0] == "sized"]
    moved = [("exact", [row[j] for j in loose]) for row in own]
    moved += [orders(told, loose) for told in sized if slow_touched(told) & set(loose)]
    moved += [("sized", [[0] for _ in loose]) for _ in range(many - len(laws))]
    tied = [("exact", [row[j] for j in others]) for row in rows if row not in own]
    tied += [orders(told, others) for told in sized if not slow_touched(told) & set(loose)]
    return moved, tied


def trim(one):
    one = list(one)
    while one and one[-1] == 0:
        one.pop()
    return one


def slow_changed_rows(table, changes, many):
    """The rows of the product of changes and a table of exact rows."""
    # A grid of these rows alone, as wide as they are.
    return slow_changed(table, changes) if table and len(table[0][1]) == len(table) else [
        ("exact", [added_up(own, [row[j] for _, row in table]) for j in range(many)]) for own in changes]


def added_up(own, column):
    total = []
    for one, two in zip(own, column):
        part = times(one, two)
        length = max(len(total), len(part))
        total = trim((total[k] if k < len(total) else 0) + (part[k] if k < len(part) else 0) for k in range(length))
    return total


def slow_check_steering(model, number, factor, paper):
    """Point 909, word by word."""
    rows, columns, pairs, ways, changes, inverse, moved, tied = paper
    many = len([told for told in model[1] if told[0] == "exact"])
    if not slow_is_assignment(model, rows, columns, pairs) or len(rows) + len(pairs) < len(model[1]):
        return False
    own, ends, left = sorted(a for a, _ in ways), slow_arcs(model, rows, columns, pairs), slow_left_out(model, columns, pairs)
    if len(set(own)) < len(own) or not slow_ways(ways, own, left, ends) or not set(left) <= set(own):
        return False
    if any(b not in own for a in own for b in ends[a]):
        return False
    for table in (changes, inverse):
        if len(table) != many or any(len(row) != many or any(one and one[-1] == 0 for one in row) for row in table):
            return False
    if not slow_is_inverse(changes, inverse):
        return False
    grids = slow_split(model, changes, own)
    if grids is None:
        return False
    return slow_check_factor(grids[0], factor, moved) and slow_check(grids[1], number, tied)


def full_models(many, seed):
    return [model for model in steered_models(many, seed) if rank(model) == len(model[1])]


class TestSteering(unittest.TestCase):
    def test_of_the_document(self):
        self.assertEqual(fresh(self, steering, PAIRS[1]), (0, [1, 1]))
        self.assertEqual(fresh(self, unsteered, PAIRS[1]), 1)
        self.assertEqual(steering(PAIRS[2]), (0, [1]))
        self.assertEqual(unsteered(PAIRS[2]), 0)

    def test_told(self):
        for model, told in (
                (([], []), (0, [1])), ((["a"], []), (0, [1])), ((["a", "b"], [("exact", [(1, 2, 0), (1, 2, 1)], "")]), (0, [0, 0, 1])),
                ((["a"], [("exact", [(2, 3, 0)], "f")]), (3, [1])), ((["a", "b"], [("exact", [(2, 3, 0)], "f")]), (3, [1])),
                ((["a", "b"], [("sized", 2, 0, [("s", 1, 1)], "")]), (0, [0, 1])),
                ((["a", "b"], [("sized", 2, 0, [("s", 0, 1)], "")]), (0, [1])),
                # Tied, and a mode that no size moves, at once.
                ((["a", "b", "c"], [("exact", [(1, 1, 0), (-1, 0, 0)], ""), ("exact", [(1, 1, 1), (1, 1, 2)], "")]), (1, [0, 1]))):
            self.assertEqual(fresh(self, steering, model), told, model)
            self.assertEqual(unsteered(model), told[0] + len(told[1]) - 1)

    def test_small_models(self):
        kinds = {}
        for model in steered_models(500):
            if rank(model) < len(model[1]):
                fails(self, NotFull, rank(model), steering, model)
                fails(self, NotFull, rank(model), unsteered, model)
                fails(self, NotFull, rank(model), steering_paper, model)
                fails(self, NotFull, rank(model), split, model, [[]] * 50)
                continue
            number, factor = fresh(self, steering, model)
            told = slow_unsteered(model)
            self.assertEqual(number + len(factor) - 1, told, model)
            self.assertEqual(fresh(self, unsteered, model), told)
            kinds[min(number, 2), min(len(factor) - 1, 2)] = kinds.get((min(number, 2), min(len(factor) - 1, 2)), 0) + 1
        self.assertGreater(min(kinds.get(key, 0) for key in ((0, 0), (1, 0), (2, 0), (0, 1), (0, 2))), 1)

    def test_square_models(self):
        # All free beginnings are unsteered.
        for seed in range(80):
            model = made_up(seed, seed % 5, seed % 5, 0.5, 3, 3, 6)
            if rank(model) == len(model[1]):
                self.assertEqual(steering(model), (beginnings(grid_of(model)), [1]))

    def test_states(self):
        # x' = A x + B u with integers: the states less the rank of B, A B, A A B, ..
        chance = random.Random(909)
        seen = set()
        for _ in range(150):
            n, m = chance.randint(1, 4), chance.randint(0, 2)
            a = [[chance.choice([0, 0, 1, -1, 2]) for _ in range(n)] for _ in range(n)]
            b = [[chance.choice([0, 0, 1]) for _ in range(m)] for _ in range(n)]
            laws = []
            for i in range(n):
                terms = [(1, 1, i)] + [(-c, 0, j) for j, c in enumerate(a[i]) if c] + [(-c, 0, n + j) for j, c in enumerate(b[i]) if c]
                laws.append(("exact", terms, ""))
            model = ([f"x{i}" for i in range(n)] + [f"u{j}" for j in range(m)], laws)
            blocks, now = [], [list(row) for row in b]
            for _ in range(n):
                blocks.append(now)
                now = [[sum(a[i][k] * now[k][j] for k in range(n)) for j in range(m)] for i in range(n)]
            reach = number_rank_of([[c for block in blocks for c in block[i]] for i in range(n)])
            self.assertEqual(unsteered(model), n - reach)
            seen.add((n, n - reach))
        self.assertGreater(len(seen), 8)

    def test_exact_laws_alone(self):
        # The degree of the greatest common factor of all determinants, whatever the changes are.
        for model in full_models(400, 11):
            if all(told[0] == "exact" for told in model[1]):
                self.assertEqual(unsteered(model), slow_unsteered(model, 2))

    def test_errors(self):
        large = ([f"q{j}" for j in range(17)], [])
        for function, more in ((steering, ()), (unsteered, ()), (steering_paper, ()), (split, ([],)), (split, ([[[1]]],)),
                               (check_steering, (0, [1], ([], [], [], [], [], [], ([], [], []), ([], [], [], [], [], []))))):
            fails(self, TooLarge, 17, function, large, *more)
        both = ([f"q{j}" for j in range(17)], [("exact", [], "")])
        fails(self, TooLarge, 17, steering, both)
        self.assertEqual(unsteered(([f"q{j}" for j in range(16)], [])), 0)

    def test_extreme_models(self):
        begun = time.monotonic()
        for seed, (quantities, laws) in enumerate(((16, 15), (16, 12), (16, 16), (16, 8), (12, 11))):
            for exact, number in ((0.9, 1000000), (0.5, 2)):
                model = made_up(seed, quantities, laws, exact, number, 8, 12)
                if rank(model) == laws:
                    told = steering(model)
                    self.assertIs(check_steering(model, *told, steering_paper(model)), True)
        for seed, (columns, most) in enumerate(((2, [3] * 4), (3, [1] * 12), (4, [2] * 6), (5, [1] * 12), (4, [3] * 4), (8, [1] * 12))):
            model = made_tied(seed, columns, most, 1000000)
            told, paper = steering(model), steering_paper(model)
            self.assertIs(check_steering(model, *told, paper), True)
            self.assertEqual(loose(model), list(range(columns)))
        self.assertLess(time.monotonic() - begun, 60)


def number_rank_of(rows):
    from unsaidsizes.base.tables import number_rank
    return number_rank(rows) if rows and rows[0] else 0


class TestSplit(unittest.TestCase):
    def test_told(self):
        model = (["x", "u", "y"], [("exact", [(1, 1, 0), (-1, 0, 1)], ""), ("exact", [(2, 1, 0), (-2, 0, 1), (1, 1, 2)], "")])
        self.assertEqual(loose(model), [0, 1])
        self.assertIsNone(fresh(self, split, model, [[[1], []], [[], [1]]]))
        self.assertEqual(fresh(self, split, model, [[[1], []], [[-2], [1]]]), (
            [("exact", [[0, 1], [-1]]), ("sized", [[0], [0]])], [("exact", [[0, 1]])]))
        # The rows are told in order; whether there is an inverse is not looked at.
        self.assertEqual(split(model, [[[-2], [1]], [[0, 1], []]]), (
            [("exact", [[0, 0, 1], [0, -1]]), ("sized", [[0], [0]])], [("exact", [[0, 1]])]))
        self.assertEqual(split(model, [[[1], []], [[], []]]), (
            [("exact", [[0, 1], [-1]]), ("sized", [[0], [0]])], [("exact", [[]])]))
        self.assertIsNone(split(model, [[[], []], [[], []]]))
        for wrong in ([], [[[1]]], [[[1], []]], [[[1], []], [[], [1]], [[], []]], [[[1], [], []], [[], [1], []]], [[], []]):
            fails(self, WrongSize, 0, split, model, wrong)
        self.assertEqual(split((["a"], []), []), ([("sized", [[0]])], []))
        self.assertEqual(split(PAIRS[1], [[[1], []], [[], [1]]])[1], [])

    def test_any_changes(self):
        chance = random.Random(908)
        found = [0, 0]
        for model in full_models(300, 3):
            many = len([told for told in model[1] if told[0] == "exact"])
            right = steering_paper(model)[4]
            for _ in range(6):
                changes = right
                for _ in range(chance.randint(0, 2) if many else 0):
                    changes = [[list(one) for one in row] for row in changes]
                    i, j = chance.randrange(many), chance.randrange(many)
                    changes[i][j] = trim(chance.randint(-1, 1) for _ in range(chance.randint(0, 2)))
                told = fresh(self, split, model, changes)
                self.assertEqual(told, slow_split(model, changes, loose(model)))
                found[told is None] += 1
        self.assertGreater(min(found), 20)

    def test_does_not_depend_on_changes(self):
        chance = random.Random(910)
        for model in full_models(200, 4):
            paper, told = steering_paper(model), steering(model)
            changes = paper[4]
            grids = split(model, changes)
            moved = [bool(row) for row in changes]
            self.assertEqual((slow_beginnings(grids[1]), slow_factor(grids[0])), told)
            if len(moved) > 1:
                # Adding a row of the tied grid to another row keeps them parted.
                rows = [[list(one) for one in row] for row in changes]
                i, k = chance.sample(range(len(rows)), 2)
                rows[i] = [trim(a + b for a, b in zip(one + [0] * 9, [0] + two + [0] * 9)) for one, two in zip(rows[i], rows[k])]
                other = split(model, rows)
                if other is not None:
                    self.assertEqual((beginnings(other[1]), exact_factor(other[0])), told)


class TestPapers(unittest.TestCase):
    def test_told(self):
        for model in full_models(250, 5):
            number, factor = steering(model)
            paper = fresh(self, steering_paper, model)
            self.assertIs(fresh(self, check_steering, model, number, factor, paper), True)
            self.assertIs(slow_check_steering(model, number, factor, paper), True)
            for other in (number - 1, number + 1, 10 ** 30):
                self.assertIs(check_steering(model, other, factor, paper), False)
            for other in ([], [0], factor + [0], times(factor, [1, 1]), times(factor, [0, 1]), [-c for c in factor]):
                self.assertIs(check_steering(model, number, other, paper), False)

    def test_not_full(self):
        for model in small_models(60):
            if rank(model) < len(model[1]):
                for paper in (([], [], [], [], [], [], ([], [], []), ([], [], [], [], [], [])),):
                    self.assertIs(fresh(self, check_steering, model, 0, [1], paper), False)

    def test_changed_papers(self):
        chance = random.Random(911)
        refused = accepted = 0
        for model in full_models(250, 6):
            number, factor = steering(model)
            paper = steering_paper(model)
            for _ in range(15):
                other = mutated(chance, paper, PAPER)
                right = slow_check_steering(model, number, factor, other)
                self.assertIs(fresh(self, check_steering, model, number, factor, other), right, (model, other))
                refused += not right
                accepted += right
        self.assertGreater(refused, 1000)
        self.assertGreater(accepted, 100)

    def test_each_condition_alone(self):
        # x' = u and 2 x' - 2 u + y' = 0, with z = s y: x and u are loose, y and z tied.
        model = (["x", "u", "y", "z"], [
            ("exact", [(1, 1, 0), (-1, 0, 1)], ""), ("exact", [(2, 1, 0), (-2, 0, 1), (1, 1, 2)], ""), ("sized", 0, 3, [("s", 0, 2)], "")])
        good = ([0, 1], [0, 2], [(2, 3)], [(1, -1), (0, 1)], [[[1], []], [[-2], [1]]], [[[1], []], [[2], [1]]],
                ([1], [0], []), ([[[1]]], [[[1]]], [0, 0], [1, 0], [0], [1]))
        self.assertIs(fresh(self, check_steering, model, 1, [1], good), True)
        self.assertIs(slow_check_steering(model, 1, [1], good), True)
        for at, others in (
                (0, ([], [0], [1, 0], [0, 1, 2], [0, 2])), (1, ([], [0], [0, 1], [2, 0], [1, 3], [0, 4])),
                (2, ([], [(2, 2)], [(2, 0)], [(1, 3)], [(2, 3), (2, 3)], [(2, 4)])),
                (3, ([], [(1, -1)], [(0, 1), (1, -1)], [(1, -1), (0, -1)], [(1, -1), (0, 1), (0, 1)], [(1, -1), (0, 0)], [(1, -1), (0, 2)],
                     [(1, -1), (0, 1), (3, -1)], [(1, -1), (0, 1), (2, 0)], [(0, -1), (1, 0)], [(1, -2), (0, 1)], [(1, -1), (10 ** 30, 1)])),
                (4, ([], [[[1], []]], [[[1], []], [[], [1]]], [[[1], []], [[2], [1]]], [[[1], []], [[-2], [1, 0]]], [[[1], []], [[-2], []]])),
                (5, ([], [[[1], []]], [[[1], []], [[], [1]]], [[[1], []], [[-2], [1]]], [[[1], []], [[2], [1, 0]]], [[[1], []], [[2], []]])),
                (6, (([], [0], []), ([1], [], []), ([0, 1], [], []), ([1], [1], []), ([0], [1], []), ([2], [0], []), ([1], [0], [([1], [1], [0], [0, 0])]),
                     ([1], [0], [([0, 0, 1], [1], [0], [0, 0])]))),
                (7, (([], [[[1]]], [0, 0], [1, 0], [0], [1]), ([[[1]]], [[[]]], [0, 0], [1, 0], [0], [1]), ([[[1]]], [[[1]]], [0], [1, 0], [0], [1]),
                     ([[[1]]], [[[1]]], [0, 0], [1, 1], [0], [1]), ([[[1]]], [[[1]]], [0, 0], [1, 0], [1], [0]),
                     ([[[1]]], [[[1]]], [0, 0], [1, 0], [0], [0]), ([[[1]]], [[[1]]], [0, 0], [0, 0], [0], [1])))):
            for other in others:
                paper = good[:at] + (other,) + good[at + 1:]
                self.assertIs(slow_check_steering(model, 1, [1], paper), False, paper)
                self.assertIs(fresh(self, check_steering, model, 1, [1], paper), False, paper)
        # Changes with an inverse, after which too many rows have something at the loose quantities.
        unit = [[[1], []], [[], [1]]]
        for changes, inverse in ((unit, unit), ([[[1], []], [[-1], [1]]], [[[1], []], [[1], [1]]])):
            paper = good[:4] + (changes, inverse) + good[6:]
            self.assertIs(slow_check_steering(model, 1, [1], paper), False)
            self.assertIs(check_steering(model, 1, [1], paper), False)
        # Changes times integers, other ways, a factor more that is prime to all.
        more = good[:4] + ([[[7], []], [[-2], [1]]], [[[1], []], [[2], [7]]]) + good[6:]
        self.assertIs(check_steering(model, 1, [1], more), slow_check_steering(model, 1, [1], more))
        self.assertIs(check_steering(model, 1, [1], good[:6] + (([1], [0], [([7, 1], [1], [0], [0, 0])]), good[7])), True)
        other = ([0, 1], [1, 2], [(2, 3)], [(0, -1), (1, 0)]) + good[4:6] + (([1], [0], []), good[7])
        self.assertIs(check_steering(model, 1, [1], other), True)

    def test_parts_of_the_paper(self):
        for model in full_models(100, 7):
            paper, (number, factor) = steering_paper(model), steering(model)
            moved, tied = split(model, paper[4])
            self.assertIs(check_factor(moved, factor, paper[6]), True)
            self.assertIs(check_beginnings(tied, number, paper[7]), True)
            self.assertEqual(sorted(a for a, _ in paper[3]), loose(model))

    def test_long_lists(self):
        begun = time.monotonic()
        model = PAIRS[1]
        paper = steering_paper(model)
        for long in ([0] * 100000, list(range(100000)), [10 ** 30] * 100000, [-1] * 100000):
            twos, table = [(k, k) for k in long], [[long, long], [long, long]]
            for at, wrong in enumerate((long, long, twos, twos, table, table, (long, long, []), (table, table, long, long, long, long))):
                self.assertIs(check_steering(model, 0, [1, 1], paper[:at] + (wrong,) + paper[at + 1:]), False)
            self.assertIs(check_steering(model, 0, long, paper), False)
            self.assertIs(check_steering(model, 0, [1, 1], paper[:3] + ([(k, -1) for k in long],) + paper[4:]), False)
        # Changes with long polynomials that have an inverse.
        long = [1] * 20000
        for changes, inverse in (([[[1], long], [[], [1]]], [[[1], [-c for c in long]], [[], [1]]]),):
            self.assertIs(check_steering(model, 0, [1, 1], paper[:4] + (changes, inverse) + paper[6:]), True)
        self.assertLess(time.monotonic() - begun, 60)


if __name__ == "__main__":
    unittest.main()
