import random
import time
import unittest

from tests.helpers import fresh, made_up, small_models
from tests.slow_values import square_models
from tests.test_leading import ring
from unsaidsizes.begin.depth import index
from unsaidsizes.begin.relax import beginnings, check_beginnings
from unsaidsizes.blocks.blocks import needs, parts
from unsaidsizes.blocks.tied import check_loose, tied
from unsaidsizes.marks.grids import grid_of
from unsaidsizes.ranks.assign import rank
from unsaidsizes.ranks.papers import check_rank
from unsaidsizes.steer.steering import check_steering, steering, unsteered
from unsaidsizes.steer.watching import check_watching, unwatched, watching
from unsaidsizes.store.promises import holds, reason
from unsaidsizes.values.groups import groups
from unsaidsizes.values.leading import polynomial, value_of
from unsaidsizes.values.sure import is_sure

# A chain: b is told by a, c and d by b; e is apart.
CHAIN = (["a", "b", "c", "d", "e"], [
    ("sized", 1, 0, [("s", 0, 0)], "f"), ("sized", 0, 1, [("t", 0, 0)], ""), ("sized", 0, 2, [("u", 0, 3), ("v", 0, 1)], ""),
    ("sized", 0, 3, [("w", 0, 2)], ""), ("sized", 1, 4, [("x", 0, 4)], "g")])
NOT_SQUARE = (["a", "b"], [("sized", 1, 0, [("s", 0, 1)], "")])
NOT_FULL = (["a", "b"], [("exact", [(1, 0, 0), (1, 0, 1)], ""), ("exact", [(2, 0, 0), (2, 0, 1)], "f")])
PLAIN = [("whole",), ("begins", 0), ("index", 0), ("sure",)]


def large(n):
    """A whole model of n laws without free beginnings."""
    return ([f"q{j}" for j in range(n)], [("sized", 0, j, [(f"s{j}", 0, (j + 1) % n)], "") for j in range(n)])


class TestPromises(unittest.TestCase):
    def right(self, model, promise):
        self.assertIs(fresh(self, holds, model, promise), True, promise)
        self.assertIsNone(fresh(self, reason, model, promise))

    def wrong(self, model, promise, told=None):
        """The reason, tested to be as told."""
        self.assertIs(fresh(self, holds, model, promise), False, promise)
        found = fresh(self, reason, model, promise)
        if told is not None:
            self.assertEqual(found, told)
        return found

    def test_tied(self):
        for name in CHAIN[0]:
            self.right(CHAIN, ("tied", name))
        for name in ("f", "", "A", "zz", "s"):
            self.wrong(CHAIN, ("tied", name), ("missing", name))
        for name in ("a", "b"):
            kind, paper = self.wrong(NOT_SQUARE, ("tied", name))
            self.assertEqual(kind, "loose")
            self.assertIs(check_loose(NOT_SQUARE, NOT_SQUARE[0].index(name), paper), True)
        # A model need not be whole, full or small for it.
        self.right((["a", "b"], [("exact", [(1, 0, 0)], "")] * 3), ("tied", "a"))
        self.right(([f"q{j}" for j in range(30)], [("exact", [(1, 0, 0)], "")] * 40), ("tied", "q0"))

    def test_whole(self):
        for model in (CHAIN, ([], []), large(30)):
            self.right(model, ("whole",))
        for model in (NOT_SQUARE, NOT_FULL, (["a"], []), ([], [("exact", [], "")])):
            kind, number, paper = self.wrong(model, ("whole",))
            self.assertEqual((kind, number), ("not whole", rank(model)))
            self.assertIs(check_rank(model, number, paper), True)

    def test_not_whole_for_others(self):
        for model in (NOT_SQUARE, NOT_FULL):
            for promise in PLAIN[1:] + [("ahead", "a", "b"), ("apart", "a", "b"), ("begins", 10 ** 30)]:
                kind, number, paper = self.wrong(model, promise)
                self.assertEqual((kind, number), ("not whole", rank(model)))
                self.assertIs(check_rank(model, number, paper), True)
            for promise, name in ((("ahead", "x", "y"), "x"), (("ahead", "a", "y"), "y"), (("apart", "y", "b"), "y"), (("apart", "", "x"), "")):
                self.wrong(model, promise, ("missing", name))

    def test_begins(self):
        self.right(CHAIN, ("begins", 2))
        self.right(([], []), ("begins", 0))
        self.right(large(16), ("begins", 0))
        self.wrong(large(17), ("begins", 0), ("large", 17))
        for number in (0, 1, 3, 10 ** 30):
            kind, right, paper = self.wrong(CHAIN, ("begins", number))
            self.assertEqual((kind, right), ("number", 2))
            self.assertIs(check_beginnings(grid_of(CHAIN), 2, paper), True)

    def test_index(self):
        self.right(CHAIN, ("index", 1))
        self.right(([], []), ("index", 0))
        self.right(large(8), ("index", 1))
        self.wrong(large(9), ("index", 1), ("large", 9))
        for number in (0, 2, 10 ** 30):
            self.wrong(CHAIN, ("index", number), ("number", 1, None))

    def test_order(self):
        blocks = [[0], [1], [2, 3], [4]]
        self.assertEqual(parts(CHAIN)[1], blocks)
        ahead = {("a", "b"), ("a", "c"), ("a", "d"), ("b", "c"), ("b", "d")}
        for one in CHAIN[0]:
            for two in CHAIN[0]:
                if (one, two) in ahead:
                    self.right(CHAIN, ("ahead", one, two))
                else:
                    self.wrong(CHAIN, ("ahead", one, two), ("order", blocks))
                if one != two and "e" in (one, two):
                    self.right(CHAIN, ("apart", one, two))
                else:
                    self.wrong(CHAIN, ("apart", one, two), ("order", blocks))
        for promise, name in ((("ahead", "x", "y"), "x"), (("ahead", "a", "y"), "y"), (("apart", "y", "a"), "y")):
            self.wrong(CHAIN, promise, ("missing", name))
        self.right(large(30)[:1] + (large(29)[1] + [("exact", [(1, 0, 29)], "")],), ("apart", "q0", "q29"))

    def test_steered(self):
        self.right((["a", "b"], [("sized", 2, 0, [("s", 0, 1)], "")]), ("steered",))
        self.right((["a"], []), ("steered",))
        self.right(([], []), ("steered",))
        for model, told in (((["a", "b"], [("sized", 2, 0, [("s", 1, 1)], "")]), (0, [0, 1])), (CHAIN, (2, [1]))):
            kind, number, factor, paper = self.wrong(model, ("steered",))
            self.assertEqual((kind, number, factor), ("unsteered",) + told)
            self.assertIs(check_steering(model, number, factor, paper), True)
        kind, number, paper = self.wrong(NOT_FULL, ("steered",))
        self.assertEqual((kind, number), ("not full", 1))
        self.assertIs(check_rank(NOT_FULL, 1, paper), True)
        self.wrong(([f"q{j}" for j in range(17)], []), ("steered",), ("large", 17))
        self.right(([f"q{j}" for j in range(16)], []), ("steered",))
        # A model that is not full is told ahead of one that is large.
        self.assertEqual(self.wrong(([f"q{j}" for j in range(17)], [("exact", [], "")]), ("steered",))[:2], ("not full", 0))

    def test_watched(self):
        self.right(CHAIN, ("watched", [], 2))
        self.right(CHAIN, ("watched", ["a"], 1))
        self.right(CHAIN, ("watched", ["e", "d"], 0))
        self.right(CHAIN, ("watched", ["d", "e", "a", "c", "b"], 0))
        for names, name in ((["x"], "x"), (["a", "y", "x"], "y"), (["", "a"], "")):
            self.wrong(CHAIN, ("watched", names, 0), ("missing", name))
        self.wrong(NOT_SQUARE, ("watched", [], 0), ("blind",))
        self.right(NOT_SQUARE, ("watched", ["b"], 1))
        for names, number in ((["d", "e"], 1), (["a"], 0), (["a"], 2), ([], 10 ** 30)):
            kind, right, factor, paper = self.wrong(CHAIN, ("watched", names, number))
            seen = sorted(CHAIN[0].index(name) for name in names)
            self.assertEqual((kind, right, factor), ("unwatched",) + watching(CHAIN, seen))
            self.assertIs(check_watching(CHAIN, seen, right, factor, paper), True)
        for many in (9, 40):
            model = (["a", "b"], [("exact", [], "")] * many)
            self.wrong(model, ("watched", ["a", "b"], 0), ("large", many))
            self.wrong(model, ("watched", ["b", "c"], 0), ("missing", "c"))
        self.right((["a", "b"], [("exact", [], "")] * 8), ("watched", ["a", "b"], 0))

    def test_sure(self):
        self.right(([], []), ("sure",))
        self.right((["a"], [("sized", 0, 0, [("s", 1, 0)], "")]), ("sure",))
        self.wrong(large(17), ("sure",), ("large", 17))
        self.wrong(large(9), ("sure",), ("wide", 0))
        kind, k, sizes = self.wrong(large(8), ("sure",))
        self.assertEqual((kind, k, len(sizes)), ("weak", 0, 8))
        self.assertEqual(value_of(polynomial(large(8), 0), sizes), (0, 1))
        # A wide group is told ahead of a weak one, also if it stands behind.
        two = ring(9)
        model = (["a", "b"] + two[0], [("sized", 0, 0, [("m", 0, 1)], ""), ("sized", 0, 1, [("n", 0, 0)], "")] + [
            (one[0], one[1], one[2] + 2, [(size, k, j + 2) for size, k, j in one[3]], one[4]) if one[0] == "sized"
            else ("exact", [(c, k, j + 2) for c, k, j in one[1]], "") for one in two[1]])
        self.wrong(model, ("sure",), ("wide", 1))
        # The first group that is not sure.
        model = (["a", "b", "c"], [("sized", 0, 0, [("p", 1, 0)], ""), ("sized", 0, 1, [("m", 0, 2)], ""), ("sized", 0, 2, [("n", 0, 1)], "")])
        self.assertEqual(self.wrong(model, ("sure",))[:2], ("weak", 1))

    def test_small_models(self):
        begun = time.monotonic()
        found = {}
        for model in small_models(60) + square_models(120, 803):
            many, whole = len(model[1]), rank(model) == len(model[0]) == len(model[1])
            numbers = [("begins", k) for k in range(4)] + [("index", k) for k in range(3)] + [("watched", model[0][:1], k) for k in range(2)]
            pairs = [(kind, one, two) for kind in ("ahead", "apart") for one in model[0][:3] for two in model[0][:3]]
            for promise in PLAIN[:1] + PLAIN[3:] + [("steered",)] + [("tied", name) for name in model[0]] + numbers + pairs:
                kind = promise[0]
                if kind == "tied":
                    right = model[0].index(promise[1]) in tied(model)
                elif kind == "steered":
                    right = rank(model) == many and unsteered(model) == 0
                elif kind == "watched":
                    right = unwatched(model, list(range(len(promise[1])))) == promise[2]
                elif not whole or kind == "whole":
                    right = whole
                elif kind in ("begins", "index"):
                    right = (beginnings if kind == "begins" else index)(grid_of(model)) == promise[1]
                elif kind == "sure":
                    sizes = [len(one) for one in groups(model)]
                    right = max(sizes, default=0) <= 8 and all(is_sure(model, k) for k in range(len(sizes)))
                else:
                    blocks, told = parts(model)[1], needs(model)
                    one, two = (next(k for k, block in enumerate(blocks) if model[0].index(name) in block) for name in promise[1:])
                    right = one in told[two] if kind == "ahead" else one != two and one not in told[two] and two not in told[one]
                self.assertIs(holds(model, promise), right, (model, promise))
                why = reason(model, promise)
                self.assertIs(why is None, right)
                found[kind, why and why[0]] = found.get((kind, why and why[0]), 0) + 1
        for key in (("tied", "loose"), ("tied", None), ("whole", "not whole"), ("begins", "number"), ("begins", None), ("index", "number"), ("index", None),
                    ("ahead", "order"), ("ahead", None), ("apart", "order"), ("apart", None), ("steered", "unsteered"), ("steered", "not full"),
                    ("steered", None), ("watched", "blind"), ("watched", "unwatched"), ("watched", None), ("sure", "weak"), ("sure", None)):
            self.assertGreater(found.get(key, 0), 3, key)
        self.assertLess(time.monotonic() - begun, 60)

    def test_great_models(self):
        model = made_up(3, 30, 40, 0.5, 1000000, 5, 12)
        for promise in PLAIN + [("steered",), ("ahead", "q0", "q1"), ("watched", ["q3"], 0), ("tied", "q5")]:
            holds(model, promise)
            fresh(self, reason, model, promise)
        self.assertEqual(steering((["a"], [])), (0, [1]))


if __name__ == "__main__":
    unittest.main()
