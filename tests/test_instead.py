import random
import time
import unittest

from tests.helpers import fails, fresh, made_up, small_models, with_sums
from tests.test_corners import orders_and_wishes
from tests.test_givens import all_wishes, places
from unsaidsizes.blocks.blocks import parts
from unsaidsizes.blocks.givens import dearest, kept, spare
from unsaidsizes.blocks.hangs import hangs
from unsaidsizes.blocks.tied import loose
from unsaidsizes.errors import BadOrder, BadWish, NoLaw
from unsaidsizes.pairing.corners import pairing
from unsaidsizes.pairing.instead import chain, substitute, substitutes

# a hangs together with b, b with c; the third law is twice the first one.
MODEL = (["a", "b", "c"], [
    ("exact", [(1, 0, 0), (1, 1, 1)], ""), ("sized", 0, 1, [("s", 0, 2)], ""), ("exact", [(2, 0, 0), (2, 1, 1)], "f"),
    ("exact", [(1, 0, 2)], "")])


def without_law(model, i):
    return (model[0], model[1][:i] + model[1][i + 1:])


def less(order, i):
    """An order without a law, for the model without it."""
    return [which - (which > i) for which in order if which != i]


def slow_chain(model, order, wishes, i):
    """From the two pairings, of the model with and without the law."""
    before = dict(pairing(model, order, wishes))
    after = {which + (which >= i): j for which, j in pairing(without_law(model, i), less(order, i), wishes)}
    return [(which, before.get(which), after.get(which)) for which in order if before.get(which) != after.get(which)]


def slow_substitute(model, wishes, i):
    before, after = dearest(model, wishes), dearest(without_law(model, i), wishes)
    assert set(before) <= set(after) and len(after) <= len(before) + 1
    return next((j for j in after if j not in before), None)


class TestChain(unittest.TestCase):
    def test_told(self):
        self.assertEqual(pairing(MODEL, [0, 1, 2, 3], []), [(0, 1), (1, 2), (3, 0)])
        self.assertEqual(fresh(self, chain, MODEL, [0, 1, 2, 3], [], 0), [(0, 1, None), (2, None, 1)])
        self.assertEqual(fresh(self, chain, MODEL, [0, 1, 2, 3], [], 1), [(1, 2, None), (3, 0, 2)])
        self.assertEqual(fresh(self, chain, MODEL, [0, 1, 2, 3], [], 2), [])
        self.assertEqual(fresh(self, chain, MODEL, [0, 1, 2, 3], [], 3), [(3, 0, None)])
        self.assertEqual(chain(MODEL, [2, 1, 0, 3], [], 0), [])
        self.assertEqual(chain(MODEL, [2, 1, 0, 3], [], 2), [(2, 1, None), (0, None, 1)])

    def test_all_chains(self):
        chance = random.Random(1107)
        lengths = {}
        for model in small_models(150):
            for order, wishes in orders_and_wishes(model, chance, 3):
                held, place = dict(pairing(model, order, wishes)), places(model, wishes)
                needless = spare(model)
                for i in range(len(order)):
                    told = fresh(self, chain, model, order, wishes, i)
                    self.assertEqual(told, slow_chain(model, order, wishes, i))
                    lengths[len(told)] = lengths.get(len(told), 0) + 1
                    self.assertIs(told == [], i not in held)
                    if told:
                        self.assertEqual(told[0], (i, held[i], None))
                        self.assertEqual([which for which, _, _ in told], sorted([which for which, _, _ in told], key=order.index))
                        for (_, before, _), (_, now, after) in zip(told, told[1:]):
                            self.assertEqual(after, before)
                            self.assertTrue(now is None or place[now] < place[after])
                        self.assertTrue(all(now is not None for _, now, _ in told[:-1]))
                        self.assertEqual(told[-1][1], substitute(model, wishes, i))
                        self.assertIs(told[-1][1] is None, i in needless)
        self.assertGreater(min(lengths[many] for many in (0, 1, 2, 3)), 20)

    def test_errors(self):
        for order, at in (([], 0), ([0, 1, 2], 3), ([0, 1, 2, 3, 0], 4), ([0, 0], 1), ([-1], 0), ([4, 1, 2, 3], 0), ([0, 1, 2, 10 ** 30], 3)):
            fails(self, BadOrder, at, chain, MODEL, order, [9], 9)
        for wrong, at in (([3], 0), ([-1], 0), ([0, 0], 1), ([0, 1, 2, 3], 3), ([10 ** 30], 0)):
            fails(self, BadWish, at, chain, MODEL, [0, 1, 2, 3], wrong, 9)
            fails(self, BadWish, at, substitute, MODEL, wrong, 9)
            fails(self, BadWish, at, substitutes, MODEL, wrong)
        for i in (-1, 4, 10 ** 30):
            fails(self, NoLaw, i, chain, MODEL, [0, 1, 2, 3], [1], i)
            fails(self, NoLaw, i, substitute, MODEL, [1], i)
        fails(self, NoLaw, 0, chain, ([], []), [], [], 0)
        fails(self, NoLaw, 0, substitute, (["a"], []), [], 0)


class TestSubstitutes(unittest.TestCase):
    def test_told(self):
        self.assertEqual(fresh(self, substitutes, MODEL, []), [None, 0, None, 0])
        self.assertEqual(substitutes(MODEL, [2]), [None, 0, None, 2])
        self.assertEqual(substitutes(MODEL, [1, 2]), [None, 1, None, 1])
        self.assertEqual(substitutes(([], []), []), [])
        self.assertEqual(substitutes((["a", "b"], []), []), [])
        self.assertEqual(substitutes(([], [("exact", [], "")]), []), [None])

    def test_dearest_sets(self):
        chance = random.Random(1105)
        found = [0, 0]
        for model in small_models(200):
            for wishes in all_wishes(model, chance, 2):
                told = fresh(self, substitutes, model, wishes)
                self.assertEqual(told, [slow_substitute(model, wishes, i) for i in range(len(model[1]))])
                for i, one in enumerate(told):
                    self.assertEqual(fresh(self, substitute, model, wishes, i), one)
                    found[one is None] += 1
        self.assertGreater(min(found), 300)

    def test_what_hangs(self):
        # Point 1106: the dearest quantity that hangs on the law in the model with the kept laws and the givens.
        chance = random.Random(1106)
        for model in small_models(120):
            for order, wishes in orders_and_wishes(model, chance, 2):
                own, place = kept(model, order), places(model, wishes)
                laws = [model[1][i] for i in own] + [("exact", [(1, 0, g)], "") for g in dearest(model, wishes)]
                told = hangs((model[0], laws))
                for at, i in enumerate(own):
                    if i not in spare(model):
                        self.assertEqual(substitute(model, wishes, i), min(told[at], key=place.get))

    def test_what_stays(self):
        # Point 1109: what was loose stays loose, and what is crowded then was crowded before.
        for model in small_models(150):
            for i in range(len(model[1])):
                other = without_law(model, i)
                self.assertLessEqual(set(loose(model)), set(loose(other)))
                self.assertLessEqual(set(parts(other)[2]), set(parts(model)[2]))

    def test_great_models(self):
        begun = time.monotonic()
        for seed, exact, number in ((66, 0.5, 9), (67, 0.85, 1000000), (68, 0, 1)):
            model = made_up(seed, 30, 37, exact, number, 3, 8)
            model = with_sums(seed, model, 3) if exact else model
            chance = random.Random(seed)
            wishes = chance.sample(range(30), 12)
            told = substitutes(model, wishes)
            for i in chance.sample(range(len(told)), 6):
                self.assertEqual(told[i], slow_substitute(model, wishes, i))
                order = chance.sample(range(len(told)), len(told))
                self.assertEqual(chain(model, order, wishes, i), slow_chain(model, order, wishes, i))
        self.assertLess(time.monotonic() - begun, 60)


if __name__ == "__main__":
    unittest.main()
