import random
import time
import unittest

from tests.helpers import fails, fresh, mutated
from tests.slow_values import dict_of, model_of, slow_groups, slow_leading, slow_value, square_models
from tests.test_beginnings import slow_changed, slow_check
from tests.test_blocks import slow_check as slow_check_parts
from tests.slow_grids import made_grid, mixed, powers, slow_tight
from unsaidsizes.begin.relax import beginnings_paper
from unsaidsizes.errors import NotFull, NotSquare, TooLarge, WrongSize
from unsaidsizes.marks.grids import grid_of
from unsaidsizes.models.model import sizes_of
from unsaidsizes.ranks.assign import rank
from unsaidsizes.runs.said import is_ordinary
from unsaidsizes.values.groups import check_groups, faults, groups, groups_paper, idle
from unsaidsizes.values.leading import polynomial

EMPTY = (([], [], [], [], [], []), ([], [], []), ([], [], [], [], [], []))
# A ring of two laws, one alone, one that is idle: 1 - s t, r, and u.
RING = (["a", "b", "c", "d"], [
    ("sized", 1, 0, [("s", 1, 1)], ""), ("sized", 1, 1, [("t", 1, 0)], ""), ("sized", 0, 2, [("r", 1, 2)], ""),
    ("sized", 1, 3, [("u", 0, 3)], "f")])


def full_models(many, seed):
    return [model for model in square_models(many, seed) if rank(model) == len(model[1])]


def slow_told(model, grid, paper, blocks):
    """The groups as point 1003 tells them by the blocks of the tight model."""
    now = slow_changed(grid, paper[0])
    tight = slow_tight(now, paper[2], paper[3])
    table, found, at = powers(now), [], {}
    for i, told in enumerate(model[1]):
        if told[0] == "sized":
            for size, (_, k, j) in enumerate(told[3], sum(len(one[3]) for one in model[1][:i] if one[0] == "sized")):
                at[i, k, j] = size
    for m, block in enumerate(blocks):
        # Of the blocks that a law falls on its own one needs all others: it stands last.
        own = [i for i, told in enumerate(model[1]) if told[0] == "sized" and set(tight[i]) & set(block)
               and not any(set(tight[i]) & set(other) for other in blocks[m + 1:])]
        sizes = sorted(at[i, table[i][j], j] for i in own for j in block if j in tight[i] and (i, table[i][j], j) in at)
        if sizes:
            found.append(sizes)
    return sorted(found)


def tight_model(model, grid, paper):
    """The tight model, as the tests of parts take it: names of sizes play no part."""
    now = slow_changed(grid, paper[0])
    tight = slow_tight(now, paper[2], paper[3])
    laws = []
    for i, told in enumerate(model[1]):
        if told[0] == "exact":
            laws.append(("exact", [(c, 0, j) for j, c in enumerate(tight[i]) if c], ""))
        else:
            laws.append(("sized", 0, tight[i][0], [(f"t{i}.{j}", 0, j) for j in tight[i][1:]], ""))
    return (model[0], laws)


def slow_check_groups(model, told, paper):
    """Point 1004, word by word."""
    grid = grid_of(model)
    beginning, parts, shown = paper
    if not slow_check(grid, sum(beginning[3]) - sum(beginning[2]), beginning):
        return False
    if parts[0] or parts[2] or not slow_check_parts(tight_model(model, grid, beginning), parts, shown):
        return False
    return slow_told(model, grid, beginning, parts[1]) == told


class TestGroups(unittest.TestCase):
    def test_told(self):
        self.assertEqual(fresh(self, groups, RING), [[0, 1], [2]])
        self.assertEqual(fresh(self, idle, RING), [3])
        for model, told, rest in (
                (([], []), [], []), ((["a"], [("exact", [(1, 0, 0)], "")]), [], []), ((["a"], [("sized", 1, 0, [("s", 0, 0)], "")]), [], [0]),
                ((["a"], [("sized", 0, 0, [("s", 1, 0)], "")]), [[0]], []), ((["a"], [("sized", 0, 0, [("s", 1, 0), ("t", 2, 0)], "")]), [[1]], [0]),
                ((["a", "b"], [("sized", 0, 0, [("s", 0, 1)], ""), ("sized", 0, 1, [("t", 0, 0)], "")]), [[0, 1]], []),
                ((["a", "b"], [("sized", 0, 0, [("s", 0, 1)], ""), ("exact", [(1, 0, 1)], "")]), [], [0]),
                ((["a", "b"], [("sized", 0, 0, [("s", 0, 1)], ""), ("exact", [(1, 0, 0)], "")]), [[0]], []),
                ((["a", "b"], [("sized", 0, 0, [("s", 0, 1)], ""), ("exact", [(1, 0, 0), (-1, 0, 1)], "")]), [[0]], []),
                # Last numbers that cancel: the sum of a and b stands in the first law alone.
                ((["a", "b"], [("exact", [(1, 1, 0), (1, 1, 1)], ""), ("sized", 1, 0, [("s", 1, 1), ("t", 0, 0)], "")]), [[0]], [1])):
            self.assertEqual(fresh(self, groups, model), told, model)
            self.assertEqual(fresh(self, idle, model), rest, model)

    def test_rings(self):
        for n in range(2, 9):
            model = ([f"q{j}" for j in range(n)], [("sized", 0, j, [(f"s{j}", 0, (j + 1) % n)], "") for j in range(n)])
            self.assertEqual(groups(model), [list(range(n))])
            # Two rings that are joined in one direction stay two.
            both = ([f"q{j}" for j in range(2 * n)], [("sized", 0, j, [(f"s{j}", 0, (j + 1) % n)], "") for j in range(n)] + [
                ("sized", 0, n + j, [(f"t{j}", 0, n + (j + 1) % n)] + ([("more", 0, 0)] if j == 0 else []), "") for j in range(n)])
            told = [list(range(n)), [n] + list(range(n + 2, 2 * n + 1))]
            self.assertEqual(groups(both), told)
            self.assertEqual(idle(both), [n + 1])

    def test_small_models(self):
        kinds = {}
        for model in square_models(500):
            leading = slow_leading(model)
            if leading is None:
                fails(self, NotFull, rank(model), groups, model)
                fails(self, NotFull, rank(model), idle, model)
                fails(self, NotFull, rank(model), groups_paper, model)
                fails(self, NotFull, rank(model), check_groups, model, [], EMPTY)
                fails(self, NotFull, rank(model), faults, model, [])
                continue
            told = fresh(self, groups, model)
            self.assertEqual(told, slow_groups(leading), model)
            kinds[len(told)] = kinds.get(len(told), 0) + 1
            stands = {size for own in leading for size in own}
            self.assertEqual(fresh(self, idle, model), [size for size in range(len(sizes_of(model))) if size not in stands])
        self.assertGreater(min(kinds.get(many, 0) for many in (0, 1, 2, 3)), 8)

    def test_errors(self):
        wide = (["a", "b"], [("exact", [], "")])
        large = ([f"q{j}" for j in range(17)], [("exact", [(1, 0, j)], "") for j in range(17)])
        empty = (["a", "b"], [("exact", [(1, 0, 0), (1, 0, 1)], ""), ("exact", [(2, 0, 0), (2, 0, 1)], "")])
        for function, more in ((groups, ()), (idle, ()), (groups_paper, ()), (check_groups, ([], EMPTY)), (faults, ([(1, 1)],))):
            fails(self, NotSquare, 1, function, wide, *more)
            fails(self, TooLarge, 17, function, large, *more)
            fails(self, NotFull, 1, function, empty, *more)

    def test_sixteen_laws(self):
        begun, full = time.monotonic(), 0
        for seed in range(16):
            chance = random.Random(seed)
            grid = made_grid(chance, 16, [0.3, 0.7][seed % 2], [0.2, 0.5][seed % 3 % 2], seed % 4, 1000000 if seed > 7 else 2)
            model = model_of(mixed(chance, grid, 10 * (seed % 3)), chance)
            if rank(model) == 16:
                full += 1
                told = groups(model)
                self.assertIs(check_groups(model, told, groups_paper(model)), True)
        self.assertGreater(full, 3)
        self.assertLess(time.monotonic() - begun, 60)


class TestPapers(unittest.TestCase):
    def test_told(self):
        for model in full_models(250, 1004):
            told, paper = groups(model), fresh(self, groups_paper, model)
            self.assertIs(fresh(self, check_groups, model, told, paper), True)
            self.assertIs(slow_check_groups(model, told, paper), True)
            joined = [sorted(size for one in told[:2] for size in one)] + told[2:]
            for other in (told[1:], told + [[]], told + told[-1:], [one + [99] for one in told], [one[1:] for one in told], joined,
                          list(reversed(told)), [list(reversed(one)) for one in told], told + [[len(sizes_of(model))]], [[-1]] + told, [[]] + told):
                self.assertIs(check_groups(model, other, paper), other == told, (model, other))

    def test_changed_papers(self):
        chance = random.Random(1005)
        refused = accepted = 0
        for model in full_models(200, 1006):
            told, paper = groups(model), groups_paper(model)
            for _ in range(12):
                at = chance.randrange(3)
                other = paper[:at] + (mutated(chance, paper[at], {}),) + paper[at + 1:]
                right = slow_check_groups(model, told, other)
                self.assertIs(fresh(self, check_groups, model, told, other), right, (model, other))
                refused += not right
                accepted += right
        self.assertGreater(refused, 500)
        self.assertGreater(accepted, 50)

    def test_each_condition_alone(self):
        told, paper = groups(RING), groups_paper(RING)
        beginning, parts, shown = paper
        self.assertIs(check_groups(RING, told, paper), True)
        for at, others in (
                (0, ((beginning[0], beginning[1], [0] * 4, [9] * 4) + beginning[4:], ([], [], [], [], [], []), beginning[:5] + ([0, 1, 2, 2],))),
                (1, (([0], parts[1][1:], []), ([], parts[1][1:], parts[1][0]), ([], parts[1][:-1], []), ([], [[0], [1], [2], [3]], []),
                     ([], [[0, 1, 2], [3]], []), ([], [], []))),
                (2, (shown[:5] + ([],), shown[:2] + ([],) + shown[3:], shown[:3] + ([(0, -1)],) + shown[4:]))):
            for other in others:
                changed = paper[:at] + (other,) + paper[at + 1:]
                self.assertIs(check_groups(RING, told, changed), False, changed)

    def test_long_lists(self):
        begun = time.monotonic()
        told, paper = groups(RING), groups_paper(RING)
        for long in ([0] * 100000, list(range(100000)), [10 ** 30] * 100000, [-1] * 100000):
            twos = [(k, k) for k in long]
            self.assertIs(check_groups(RING, [long], paper), False)
            self.assertIs(check_groups(RING, [long] * 1000, paper), False)
            for wrong in (([long] * 4, [long] * 4, long, long, long, long), ([[long]], [[long]], long, long, long, long)):
                self.assertIs(check_groups(RING, told, (wrong,) + paper[1:]), False)
            for wrong in ((long, [], []), ([], [long], []), ([], [], long), ([], [[k] for k in long], [])):
                self.assertIs(check_groups(RING, told, (paper[0], wrong, paper[2])), False)
            for at, wrong in enumerate((long, long, twos, twos, twos, [long] * 4)):
                self.assertIs(check_groups(RING, told, paper[:2] + (paper[2][:at] + (wrong,) + paper[2][at + 1:],)), False)
        self.assertLess(time.monotonic() - begun, 60)

    def test_any_paper_of_beginnings(self):
        # The groups are the same for each paper.
        for model in full_models(120, 1007):
            paper = groups_paper(model)
            p, q = [mark + 2 for mark in paper[0][2]], [mark + 2 for mark in paper[0][3]]
            other = (paper[0][:2] + (p, q) + paper[0][4:],) + paper[1:]
            self.assertIs(check_groups(model, groups(model), other), True)
            self.assertEqual(paper[0], beginnings_paper(grid_of(model)))


class TestFaults(unittest.TestCase):
    def test_told(self):
        for sizes, told in (([(1, 1)] * 4, [0]), ([(2, 1), (1, 2), (1, 1), (0, 1)], [0]), ([(2, 1), (1, 3), (0, 1), (0, 1)], [1]),
                            ([(0, 1)] * 4, [1]), ([(-1, 1), (-1, 1), (0, 1), (5, 1)], [0, 1]), ([(2, 1)] * 4, []),
                            ([(10 ** 40, 3), (3, 10 ** 40), (1, 10 ** 50), (1, 1)], [0])):
            self.assertEqual(fresh(self, faults, RING, sizes), told, sizes)
        for many in (0, 3, 5):
            fails(self, WrongSize, many, faults, RING, [(1, 1)] * many)
        self.assertEqual(faults(([], []), []), [])

    def test_small_models(self):
        chance = random.Random(1008)
        found = {True: 0, False: 0}
        for model in full_models(300, 1009):
            many = len(sizes_of(model))
            told = [dict_of(polynomial(model, k)) for k in range(len(groups(model)))] if many <= 8 else None
            for _ in range(5):
                sizes = [chance.choice([(0, 1), (1, 1), (1, 1), (-1, 1), (2, 1), (1, 2)]) for _ in range(many)]
                wrong = fresh(self, faults, model, sizes)
                if told is not None:
                    self.assertEqual(wrong, [k for k, one in enumerate(told) if slow_value(one, sizes) == 0])
                self.assertIs(is_ordinary(model, sizes), wrong == [])
                found[wrong == []] += 1
        self.assertGreater(min(found.values()), 100)


if __name__ == "__main__":
    unittest.main()
