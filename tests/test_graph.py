import random
import unittest

from tests.helpers import (
    Chosen, fails, fresh, made_up, slow_determinant, slow_entry, slow_rank, slow_touched, small_models, subsets)
from tests.test_assign import slow_is_assignment
from unsaidsizes.blocks.graph import arcs, exits, feeds, left_out
from unsaidsizes.errors import NoLaw, NotFull, NotGreatest
from unsaidsizes.ranks.assign import assignment, least_sets, rank

MODEL = (["a", "b", "c", "d"], [
    ("exact", [(1, 0, 0), (1, 1, 1)], ""), ("sized", 0, 1, [("s", 0, 2)], ""), ("sized", 1, 2, [("t", 0, 3)], "f")])


def slow_regular(model, rows, columns):
    return bool(slow_determinant([[slow_entry(model[1][i], j) for j in columns] for i in rows]))


def slow_arcs(model, rows, columns, pairs):
    """Point 403, word by word."""
    found = []
    for a in range(len(model[0])):
        ends = [b for i, b in pairs if b != a and a in slow_touched(model[1][i])]
        if a not in columns:
            for b in columns:
                if slow_regular(model, rows, [a if j == b else j for j in columns]):
                    ends.append(b)
        found.append(sorted(ends))
    return found


def slow_left_out(model, columns, pairs):
    return [j for j in range(len(model[0])) if j not in columns and j not in [b for _, b in pairs]]


def slow_exits(model, columns, pairs):
    chosen = Chosen(model)
    used = [i for i, _ in pairs]
    free = [one for i, one in enumerate(model[1]) if one[0] == "sized" and i not in used]
    return [j for j in range(len(model[0])) if any(j in slow_touched(one) for one in free)
            or (j not in columns and chosen.exact_rank(sorted(columns + [j])) > len(columns))]


def slow_feeds(model, rows, columns, pairs, i):
    if model[1][i][0] == "sized":
        return [j for which, j in pairs if which == i]
    return [b for b in columns if slow_regular(model, [k for k in rows if k != i], [j for j in columns if j != b])]


def all_assignments(model):
    """All assignments of a small model."""
    laws = model[1]
    exact = [i for i, one in enumerate(laws) if one[0] == "exact"]
    sized = [i for i, one in enumerate(laws) if one[0] == "sized"]

    def pairings(rest, barred):
        if not rest:
            yield []
            return
        yield from pairings(rest[1:], barred)
        for j in sorted(slow_touched(laws[rest[0]]) - barred):
            for more in pairings(rest[1:], barred | {j}):
                yield [(rest[0], j)] + more
    for rows in subsets(exact):
        for columns in subsets(range(len(model[0]))):
            if len(rows) == len(columns) and slow_regular(model, rows, columns):
                for pairs in pairings(sized, set(columns)):
                    yield rows, columns, pairs


def reached(starts, ends):
    found, queue = set(starts), list(starts)
    while queue:
        for b in ends[queue.pop()]:
            if b not in found:
                found.add(b)
                queue.append(b)
    return found


class TestGraph(unittest.TestCase):
    def test_told(self):
        told = ([0], [0], [(1, 1), (2, 2)])
        self.assertEqual(fresh(self, arcs, MODEL, *told), [[], [0], [1], [2]])
        self.assertEqual(fresh(self, left_out, MODEL, *told), [3])
        self.assertEqual(fresh(self, exits, MODEL, *told), [])
        other = ([0], [1], [(1, 2), (2, 3)])
        self.assertEqual(fresh(self, arcs, MODEL, *other), [[1], [2], [3], []])
        self.assertEqual(fresh(self, left_out, MODEL, *other), [0])
        self.assertEqual(fresh(self, arcs, ([], []), [], [], []), [])
        self.assertEqual(fresh(self, arcs, (["a"], []), [], [], []), [[]])
        self.assertEqual(fresh(self, left_out, (["a"], []), [], [], []), [0])

    def test_all_of_the_greatest_size(self):
        tried = 0
        for model in small_models(60):
            everything = list(all_assignments(model))
            greatest = max(len(columns) + len(pairs) for _, columns, pairs in everything)
            self.assertEqual(greatest, rank(model))
            full = greatest == len(model[1])
            random.Random(22).shuffle(everything)
            small = [one for one in everything if len(one[1]) + len(one[2]) < greatest]
            great = [one for one in everything if len(one[1]) + len(one[2]) == greatest]
            for told in small[:15]:
                for function in (arcs, left_out, exits):
                    fails(self, NotGreatest, greatest, function, model, *told)
                fails(self, NotGreatest, greatest, feeds, model, *told, -1)
            for told in great[:15]:
                tried += 1
                rows, columns, pairs = told
                ends = fresh(self, arcs, model, *told)
                self.assertEqual(ends, slow_arcs(model, *told))
                starts = fresh(self, left_out, model, *told)
                self.assertEqual(starts, slow_left_out(model, columns, pairs))
                stops = fresh(self, exits, model, *told)
                self.assertEqual(stops, slow_exits(model, columns, pairs))
                # The least sets do not hang on the assignment.
                smallest, largest = least_sets(model)
                self.assertEqual(sorted(reached(starts, ends)), smallest)
                leading = [j for j in range(len(model[0])) if not reached([j], ends) & set(stops)]
                self.assertEqual(leading, largest)
                for i in range(len(model[1])):
                    if full:
                        self.assertEqual(fresh(self, feeds, model, *told, i), slow_feeds(model, *told, i))
                    else:
                        fails(self, NotFull, greatest, feeds, model, *told, i)
        self.assertGreater(tried, 300)

    def test_no_assignments(self):
        for rows, columns, pairs in (
                ([0], [0], [(1, 1)]), ([], [], []), ([0], [0, 1], [(2, 2)]), ([1], [1], []), ([0], [2], [(1, 1)]),
                ([0], [0], [(2, 2), (1, 1)]), ([0], [0], [(1, 1), (1, 2)]), ([0], [0], [(1, 0), (2, 2)]),
                ([0], [0], [(1, 1), (2, 1)]), ([0], [4], [(1, 1), (2, 2)]), ([0], [-4], [(1, 1), (2, 2)]),
                ([3], [0], [(1, 1), (2, 2)]), ([-3], [0], [(1, 1), (2, 2)]), ([0], [0], [(1, 1), (2, 9)]),
                ([0, 0], [0, 3], [(1, 1), (2, 2)]), ([10 ** 30] * 99, [10 ** 30] * 99, [])):
            for function in (arcs, left_out, exits):
                fails(self, NotGreatest, 3, function, MODEL, rows, columns, pairs)
            fails(self, NotGreatest, 3, feeds, MODEL, rows, columns, pairs, 0)
            fails(self, NotGreatest, 3, feeds, MODEL, rows, columns, pairs, 3)

    def test_order_of_errors_of_feeds(self):
        told = assignment(MODEL)
        for i in (-1, 3, 10 ** 30):
            fails(self, NoLaw, i, feeds, MODEL, *told, i)
        needless = (MODEL[0], MODEL[1] + [("exact", [], "")])
        told = assignment(needless)
        fails(self, NotFull, 3, feeds, needless, *told, 0)
        fails(self, NoLaw, 4, feeds, needless, *told, 4)
        fails(self, NotGreatest, 3, feeds, needless, [], [], [], 4)

    def test_great_models(self):
        for seed, exact, number in ((31, 0.5, 9), (32, 0.8, 1000000)):
            model = made_up(seed, 30, 27, exact, number, 4, 9)
            told = assignment(model)
            chosen = Chosen(model)
            ends, starts = arcs(model, *told), left_out(model, *told)
            rows, columns, pairs = told
            self.assertTrue(slow_is_assignment(model, rows, columns, pairs) if len(rows) < 6 else True)
            # An arc exchanges quantities: then the rank stays.
            others = sorted(columns + [j for _, j in pairs])
            for a in starts:
                for b in reached([a], ends):
                    if b != a:
                        kept = sorted([j for j in others if j != b] + [a])
                        self.assertEqual(slow_rank(model, columns=kept, chosen=chosen), len(others))
                for b in set(others) - reached([a], ends):
                    kept = sorted([j for j in others if j != b] + [a])
                    self.assertEqual(slow_rank(model, columns=kept, chosen=chosen), len(others) - 1)


if __name__ == "__main__":
    unittest.main()
