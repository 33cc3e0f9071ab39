import random
import time
import unittest

from tests.helpers import Chosen, fails, fresh, made_up, mutated, slow_touched
from tests.slow_steer import slow_check_factor, slow_unwatched, slow_ways, steered_models, times, turned
from tests.test_assign import slow_is_assignment
from tests.test_beginnings import slow_check, slow_is_inverse
from tests.test_graph import slow_arcs, slow_exits
from tests.test_steering import number_rank_of, slow_changed_rows, trim
from unsaidsizes.begin.relax import beginnings
from unsaidsizes.errors import NotASet, TooLarge
from unsaidsizes.marks.grids import grid_of
from unsaidsizes.ranks.assign import rank
from unsaidsizes.steer.watching import check_watching, unwatched, watching, watching_paper

PAPER = {0: [0], 1: [0], 2: [(0, 0)], 3: [(0, -1)], 4: [[[]], [], 0], 5: [[[]], [], 0]}
EMPTY = ([], [], [], [], [], [], ([], [], []), ([], [], [], [], [], []))


def slow_grids(model, unseen, crowded, changes):
    """The own and the crowded grid of point 911, word by word; None if the changed rows are not as told there."""
    laws, many = model[1], len(model[0])
    table = []
    for told in laws:
        if told[0] == "exact":
            row = [[0] * 4 for _ in range(many)]
            for number, k, j in told[1]:
                row[j][k] = number
            table.append(("exact", [trim(one) for one in row]))
    rows = [row for _, row in slow_changed_rows(table, changes, many)]
    least = [j for j in unseen if j not in crowded]
    own = [row for row in rows if any(row[j] for j in least)]
    others = [row for row in rows if not any(row[j] for j in least)]
    if len(own) != Chosen(model).exact_rank(least):
        return None

    def orders(told, j):
        return sorted(k for k, b in [(told[1], told[2])] + [(k, b) for _, k, b in told[3]] if b == j)
    sized = [told for told in laws if told[0] == "sized"]
    falling = [told for told in sized if slow_touched(told) & set(least)]
    resting = [told for told in sized if not slow_touched(told) & set(least)]
    own_grid = [("exact", [row[j] for j in least]) for row in own] + [("sized", [orders(told, j) for j in least]) for told in falling]
    e, s, k = len(others), len(resting), len(crowded)
    grid = []
    for i, row in enumerate(others):
        grid.append(("exact", [row[j] for j in crowded] + [[-1] if m == i else [] for m in range(e)] + [[]] * (e + s - k)))
    for i in range(e):
        grid.append(("sized", [[]] * k + [[0] if m == i else [] for m in range(e)] + [[0]] * (e + s - k)))
    for told in resting:
        grid.append(("sized", [orders(told, j) for j in crowded] + [[]] * e + [[0]] * (e + s - k)))
    return own_grid, grid


def slow_check_watching(model, seen, number, factor, paper):
    """Point 912, word by word."""
    rows, columns, pairs, ways, changes, inverse, crowded, own = paper
    unseen = [j for j in range(len(model[0])) if j not in seen]
    many = len([told for told in model[1] if told[0] == "exact"])
    if not slow_is_assignment(model, rows, columns, pairs) or sorted(columns + [j for _, j in pairs]) != unseen:
        return False
    ends = [[b for b in one if b in unseen] if a in unseen else [] for a, one in enumerate(slow_arcs(model, rows, columns, pairs))]
    exits = [j for j in slow_exits(model, columns, pairs) if j in unseen]
    told = sorted(a for a, _ in ways)
    if len(set(told)) < len(told) or not set(told) <= set(unseen) or not slow_ways(ways, told, exits, turned(ends)):
        return False
    if any(j in exits and j not in told for j in unseen) or any(b in told for a in unseen if a not in told for b in ends[a]):
        return False
    for table in (changes, inverse):
        if len(table) != many or any(len(row) != many or any(one and one[-1] == 0 for one in row) for row in table):
            return False
    if not slow_is_inverse(changes, inverse):
        return False
    grids = slow_grids(model, unseen, told, changes)
    if grids is None:
        return False
    return slow_check_factor(grids[1], factor, crowded) and slow_check(grids[0], number, own)


def watched_models(many, seed, most=4, laws=6):
    """Models and sets of seen quantities."""
    chance = random.Random(seed)
    for model in steered_models(many, seed, most, laws):
        n = len(model[0])
        yield model, sorted(chance.sample(range(n), chance.choice([0, n, chance.randint(0, n), chance.randint(0, n)])))


class TestWatching(unittest.TestCase):
    def test_told(self):
        two = (["x", "y", "z"], [("exact", [(1, 1, 0), (1, 0, 0)], ""), ("exact", [(1, 1, 1), (1, 0, 1)], ""), ("sized", 0, 2, [("s", 0, 0), ("t", 0, 1)], "")])
        other = (["x", "y", "z"], [two[1][0], ("exact", [(1, 1, 1), (2, 0, 1)], ""), two[1][2]])
        for model, seen, told in (
                (([], []), [], (0, [1])), (([], [("exact", [], "")]), [], (0, [1])), ((["a"], []), [], None), ((["a"], []), [0], (0, [1])),
                ((["a"], [("exact", [(1, 2, 0)], "")]), [], (2, [1])), ((["a"], [("exact", [(1, 2, 0)], "")]), [0], (0, [1])),
                # Two laws for one quantity: what they have in common is left.
                ((["a"], [("exact", [(1, 1, 0), (1, 2, 0)], ""), ("exact", [(1, 1, 0), (2, 2, 0)], "")]), [], (1, [1])),
                ((["a"], [("exact", [(1, 1, 0), (1, 2, 0)], ""), ("exact", [(1, 0, 0)], "")]), [], (0, [1])),
                # Two equal parts cannot be told apart from their sum, whatever the sizes are.
                (two, [2], (0, [1, 1])), (other, [2], (0, [1])), (two, [], (2, [1])), (two, [0], (1, [1])), (two, [0, 1], (0, [1])),
                (two, [0, 2], (0, [1])),
                # A rest without terms is left of each law.
                ((["a", "b"], [("exact", [(1, 0, 1)], ""), ("sized", 0, 1, [("s", 1, 1)], "")]), [1], None),
                ((["a", "b"], [("exact", [(1, 0, 1)], ""), ("sized", 2, 0, [("s", 1, 1)], "")]), [1], (2, [1]))):
            self.assertEqual(fresh(self, watching, model, seen), told, (model, seen))
            self.assertEqual(unwatched(model, seen), told and told[0] + len(told[1]) - 1)

    def test_small_models(self):
        kinds = {}
        for model, seen in watched_models(1200, 910):
            told, number = slow_unwatched(model, seen), fresh(self, unwatched, model, seen)
            self.assertEqual(number, told, (model, seen))
            found = fresh(self, watching, model, seen)
            self.assertIs(found is None, told is None)
            if told is not None:
                self.assertEqual(found[0] + len(found[1]) - 1, told)
                key = (min(found[0], 2), min(len(found[1]) - 1, 2))
                kinds[key] = kinds.get(key, 0) + 1
            else:
                self.assertIsNone(watching_paper(model, seen))
                kinds[None] = kinds.get(None, 0) + 1
        self.assertGreater(min(kinds.get(key, 0) for key in (None, (0, 0), (1, 0), (2, 0), (0, 1), (0, 2))), 1)

    def test_none_and_all_and_one_more_seen(self):
        for model, _ in watched_models(250, 911):
            many = len(model[0])
            self.assertEqual(watching(model, list(range(many))), (0, [1]))
            if rank(model) == len(model[1]) == many:
                self.assertEqual(watching(model, []), (beginnings(grid_of(model)), [1]))
            before = unwatched(model, [])
            self.assertIs(before is None, rank(model) < many)
            for j in range(many):
                now = unwatched(model, list(range(j + 1)))
                # Whatever is seen besides tells no less.
                self.assertTrue(before is None or now <= before)
                before = now

    def test_states(self):
        # x' = A x, y = C x with integers: the states less the rank of C, C A, C A A, ..
        chance = random.Random(912)
        seen = set()
        for _ in range(150):
            n, m = chance.randint(1, 4), chance.randint(0, 2)
            a = [[chance.choice([0, 0, 1, -1, 2]) for _ in range(n)] for _ in range(n)]
            c = [[chance.choice([0, 0, 1]) for _ in range(n)] for _ in range(m)]
            laws = [("exact", [(1, 1, i)] + [(-e, 0, j) for j, e in enumerate(a[i]) if e], "") for i in range(n)]
            laws += [("exact", [(1, 0, n + i)] + [(-e, 0, j) for j, e in enumerate(c[i]) if e], "") for i in range(m)]
            model = ([f"x{i}" for i in range(n)] + [f"y{i}" for i in range(m)], laws)
            rows, now = [], c
            for _ in range(n):
                rows += now
                now = [[sum(row[k] * a[k][j] for k in range(n)) for j in range(n)] for row in now]
            told = n - number_rank_of(rows)
            self.assertEqual(unwatched(model, list(range(n, n + m))), told)
            seen.add((n, told))
        self.assertGreater(len(seen), 8)

    def test_errors(self):
        large = (["a", "b"], [("exact", [], "")] * 9)
        model = (["a", "b", "c"], [("exact", [], "")] * 8)
        for function, more in ((watching, ()), (unwatched, ()), (watching_paper, ()), (check_watching, (0, [1], EMPTY))):
            for seen in ([], [5], [1, 0]):
                fails(self, TooLarge, 9, function, large, seen, *more)
            for seen, at in (([3], 0), ([-1], 0), ([0, 3], 1), ([1, 0], 1), ([0, 1, 1], 2), ([0, 0], 1), ([10 ** 30], 0), ([2, 1, 0], 1), ([0, 1, 2, 3], 3)):
                fails(self, NotASet, at, function, model, seen, *more)
        self.assertIsNone(unwatched(model, [0, 1]))
        self.assertEqual(unwatched(model, [0, 1, 2]), 0)

    def test_extreme_models(self):
        begun, full = time.monotonic(), 0
        for seed, (quantities, exact, most) in enumerate(((8, 1, 12), (8, 0.8, 12), (30, 1, 12), (30, 0.7, 12), (12, 1, 8))):
            model = made_up(seed, quantities, 8, exact, 1000000, 40, 12)
            for many in (1, 4, 6, 7, 8):
                seen = list(range(many, quantities))
                told = watching(model, seen)
                if told is not None:
                    full += 1
                    self.assertIs(check_watching(model, seen, *told, watching_paper(model, seen)), True)
        self.assertGreater(full, 10)
        self.assertLess(time.monotonic() - begun, 60)


class TestPapers(unittest.TestCase):
    def test_told(self):
        for model, seen in watched_models(200, 913):
            told = watching(model, seen)
            paper = fresh(self, watching_paper, model, seen)
            self.assertIs(paper is None, told is None)
            if told is None:
                continue
            number, factor = told
            self.assertIs(fresh(self, check_watching, model, seen, number, factor, paper), True)
            self.assertIs(slow_check_watching(model, seen, number, factor, paper), True)
            for other in (number - 1, number + 1, 10 ** 30):
                self.assertIs(check_watching(model, seen, other, factor, paper), False)
            for other in ([], [0], factor + [0], times(factor, [1, 1]), times(factor, [0, 1]), [-c for c in factor]):
                self.assertIs(check_watching(model, seen, number, other, paper), False)

    def test_changed_papers(self):
        chance = random.Random(914)
        refused = accepted = 0
        for model, seen in watched_models(250, 915):
            told, paper = watching(model, seen), watching_paper(model, seen)
            if paper is None:
                self.assertIs(check_watching(model, seen, 0, [1], EMPTY), False)
                continue
            for _ in range(12):
                other = mutated(chance, paper, PAPER)
                right = slow_check_watching(model, seen, *told, other)
                self.assertIs(fresh(self, check_watching, model, seen, *told, other), right, (model, seen, other))
                refused += not right
                accepted += right
        self.assertGreater(refused, 1000)
        self.assertGreater(accepted, 100)

    def test_other_seen_quantities(self):
        # What shows one thing shows nothing of other quantities.
        for model, seen in watched_models(150, 916):
            paper, told = watching_paper(model, seen), watching(model, seen)
            for j in range(len(model[0]) if paper else 0):
                other = sorted(set(seen) ^ {j})
                self.assertIs(check_watching(model, other, *told, paper), False)

    def test_each_condition_alone(self):
        # x' = -x, y' = -y, z = s x + t y, w'' = r x, and z is seen: x and y are crowded, w is not.
        model = (["x", "y", "z", "w"], [
            ("exact", [(1, 1, 0), (1, 0, 0)], ""), ("exact", [(1, 1, 1), (1, 0, 1)], ""), ("sized", 0, 2, [("s", 0, 0), ("t", 0, 1)], ""),
            ("sized", 2, 3, [("r", 0, 0)], "")])
        self.assertEqual(watching(model, [2]), (2, [1, 1]))
        good = watching_paper(model, [2])
        unit = [[[1], []], [[], [1]]]
        self.assertEqual(good[:6], ([0, 1], [0, 1], [(3, 3)], [(0, -1), (1, -1)], unit, unit))
        self.assertIs(slow_check_watching(model, [2], 2, [1, 1], good), True)
        for at, others in (
                (0, ([], [0], [1, 0], [0, 2])), (1, ([], [0], [1, 0], [0, 2], [0, 3], [0, 4])), (2, ([], [(2, 3)], [(3, 0)], [(3, 3), (3, 3)], [(2, 2)])),
                (3, ([], [(0, -1)], [(0, -1), (0, -1)], [(0, -1), (1, 0)], [(0, -1), (1, -1), (3, -1)], [(0, -1), (1, -1), (3, 0)],
                     [(0, -1), (1, -1), (2, -1)], [(0, 1), (1, -1)], [(0, -1), (1, -2)], [(0, -1), (10 ** 30, -1)], [(0, -1), (1, 10 ** 30)])),
                (4, ([], [[[1], []]], [[[1], []], [[], []]], [[[1], []], [[1], [1]]], [[[1], []], [[], [1, 0]]])),
                (5, ([], [[[1], []]], [[[1], []], [[], []]], [[[1], []], [[1], [1]]], [[[1], []], [[], [1, 0]]])),
                (6, (([], [], []), good[6][:2] + ([],), good[6][:2] + (good[6][2] * 2,), good[7][:3])),
                (7, (([], [], [0], [1], [], [0]), ([], [], [0], [2], [0], []), ([], [], [0], [2], [], [1]), ([[[1]]], [[[1]]], [0], [2], [], [0])))):
            for other in others:
                paper = good[:at] + (other,) + good[at + 1:]
                self.assertIs(slow_check_watching(model, [2], 2, [1, 1], paper), False, paper)
                self.assertIs(fresh(self, check_watching, model, [2], 2, [1, 1], paper), False, paper)
        for paper in (good[:3] + ([(1, -1), (0, -1)],) + good[4:], good[:7] + (([], [], [3], [5], [], [0]),),
                      good[:4] + ([[[1], [5]], [[], [1]]], [[[1], [-5]], [[], [1]]]) + good[6:]):
            self.assertIs(check_watching(model, [2], 2, [1, 1], paper), slow_check_watching(model, [2], 2, [1, 1], paper))
            self.assertIs(check_watching(model, [2], 2, [1, 1], paper), True)
        # The rest of w alone may not have exact rows: changes that spoil it.
        other = (["x", "w"], [("exact", [(1, 1, 0)], ""), ("exact", [(1, 0, 0), (1, 2, 1)], "")])
        told, paper = watching(other, []), watching_paper(other, [])
        self.assertEqual(told, (3, [1]))
        spoilt = paper[:4] + ([[[], [1]], [[1], []]], [[[], [1]], [[1], []]]) + paper[6:]
        self.assertIs(check_watching(other, [], 3, [1], spoilt), slow_check_watching(other, [], 3, [1], spoilt))

    def test_ways_and_changes(self):
        # y tells x, for which there is another law besides: both are crowded, and only x is an exit.
        model = (["x", "y"], [("sized", 1, 0, [("s", 0, 1)], ""), ("sized", 2, 0, [("t", 0, 0)], ""), ("exact", [(1, 1, 1), (1, 0, 1)], "")])
        told = watching(model, [])
        good = ([2], [1], [(0, 0)], [(0, -1)]) + watching_paper(model, [])[4:]
        self.assertEqual(unwatched(model, []), slow_unwatched(model, []))
        for ways in ([(0, -1), (1, 0)], [(0, -1)], [(1, -1), (0, -1)], [(0, -1), (1, -1)], [(1, 0), (0, -1)], [(0, 1), (1, -1)], [(0, -1), (1, 0), (1, 0)]):
            for rows in (([2], [1], [(0, 0)]), ([2], [1], [(1, 0)]), watching_paper(model, [])[:3]):
                paper = rows + (ways,) + good[4:]
                self.assertIs(check_watching(model, [], *told, paper), slow_check_watching(model, [], *told, paper), paper)
        self.assertIs(check_watching(model, [], *told, ([2], [1], [(0, 0)], [(0, -1), (1, 0)]) + good[4:]), told == watching(model, []))
        self.assertIs(check_watching(model, [], *told, good), False)
        # Both exact laws have w; the changes have to take it out of one of them.
        model = (["w", "x"], [("exact", [(1, 0, 0), (1, 1, 1)], ""), ("exact", [(1, 1, 0), (-1, 0, 1)], ""), ("sized", 1, 1, [("s", 0, 1)], "")])
        other = (["w", "x"], [("exact", [(1, 1, 0), (1, 0, 1)], ""), ("exact", [(1, 2, 0), (-1, 0, 1)], ""), ("sized", 1, 1, [("s", 2, 1)], "")])
        unit = [[[1], []], [[], [1]]]
        for model in (model, other):
            told, paper = watching(model, []), watching_paper(model, [])
            self.assertEqual(unwatched(model, []), slow_unwatched(model, []))
            self.assertIs(check_watching(model, [], *told, paper), True)
            self.assertNotEqual(paper[4], unit)
            spoilt = paper[:4] + (unit, unit) + paper[6:]
            self.assertIs(slow_check_watching(model, [], *told, spoilt), False)
            self.assertIs(check_watching(model, [], *told, spoilt), False)

    def test_long_lists(self):
        begun = time.monotonic()
        model = (["x", "y"], [("exact", [(1, 1, 0), (1, 0, 0)], ""), ("exact", [(1, 1, 0), (1, 0, 1)], ""), ("sized", 0, 1, [("s", 0, 0)], "")])
        told, paper = watching(model, []), watching_paper(model, [])
        self.assertIs(check_watching(model, [], *told, paper), True)
        for long in ([0] * 100000, list(range(100000)), [10 ** 30] * 100000, [-1] * 100000):
            twos, table = [(k, k) for k in long], [[long, long], [long, long]]
            for at, wrong in enumerate((long, long, twos, twos, table, table, (long, long, []), (table, table, long, long, long, long))):
                self.assertIs(check_watching(model, [], *told, paper[:at] + (wrong,) + paper[at + 1:]), False)
            self.assertIs(check_watching(model, [], told[0], long, paper), False)
            self.assertIs(check_watching(model, [], *told, paper[:3] + ([(k, -1) for k in long],) + paper[4:]), False)
        for at, long in ((0, [0] * 100000), (2, list(range(100000))), (0, [-1] * 100000)):
            with self.assertRaises(NotASet):
                unwatched(model, long)
        self.assertLess(time.monotonic() - begun, 60)


if __name__ == "__main__":
    unittest.main()
