import random
import unittest
from copy import deepcopy

from tests.helpers import fails, lists_in, made_up, small_models, spoil
from tests.test_corners import row_of
from tests.test_instead import MODEL, slow_chain, slow_substitute
from unsaidsizes.blocks.givens import dearest
from unsaidsizes.errors import BadWish, NoLaw, NothingToUndo, NotModel, OutOfRange, TooLarge
from unsaidsizes.pairing.corners import pairing
from unsaidsizes.pairing.keeper import Keeper

LAW = ("exact", [(1, 0, 0), (3, 2, 2)], "g")


def told(keeper):
    """All that a keeper tells, tested to be new each time."""
    first = (keeper.model(), keeper.wishes(), keeper.pairs(), keeper.given(), [keeper.instead(i) for i in range(len(keeper.model()[1]))])
    saved = deepcopy(first)
    spoil(first)
    second = (keeper.model(), keeper.wishes(), keeper.pairs(), keeper.given(), [keeper.instead(i) for i in range(len(keeper.model()[1]))])
    assert second == saved
    return second


def fails_and_stays(test, keeper, error, at, name, *args):
    before = told(keeper)
    fails(test, error, at, getattr(keeper, name), *args)
    test.assertEqual(told(keeper), before)


class TestKeeper(unittest.TestCase):
    def agree(self, keeper, model, wishes):
        """What a keeper tells is what the functions of the other modules tell of the same model."""
        self.assertEqual(told(keeper), (
            model, wishes, pairing(model, list(range(len(model[1]))), wishes), dearest(model, wishes),
            [slow_substitute(model, wishes, i) for i in range(len(model[1]))]))

    def test_told(self):
        keeper = Keeper(MODEL, [2])
        self.agree(keeper, MODEL, [2, 0, 1])
        self.assertEqual(keeper.pairs(), [(0, 1), (1, 0), (3, 2)])
        self.assertEqual(keeper.put(1, LAW), [(1, 0, None), (2, 2, 0), (4, None, 2)])
        self.assertEqual(keeper.model()[1], [MODEL[1][0], LAW] + MODEL[1][1:])
        self.assertEqual(keeper.drop(4), [])
        self.assertEqual(keeper.drop(1), [(1, 0, None), (2, 2, 0)])
        self.assertIsNone(keeper.more("d"))
        self.assertEqual(keeper.model()[0], ["a", "b", "c", "d"])
        self.assertEqual(keeper.wishes(), [2, 0, 1, 3])
        self.assertIs(keeper.prefer(2), True)
        self.assertEqual(keeper.wishes(), [2, 0, 3, 1])
        self.assertIs(keeper.exchange(0), False)
        for _ in range(6):
            self.assertIsNone(keeper.back())
        self.agree(keeper, MODEL, [2, 0, 1])
        fails_and_stays(self, keeper, NothingToUndo, 0, "back")

    def test_errors(self):
        for model in ((["a", "a"], []), (["A"], []), (["a"], [("exact", [(1, 0, 1)], "")]), (["a"], [("exact", [(1, 4, 0)], "")])):
            fails(self, NotModel, 0, Keeper, model, [9])
        high = (["a"], [("exact", [(1, 3, 0)], "")] * 5)
        fails(self, TooLarge, 15, Keeper, high, [9])
        for wishes, at in (([3], 0), ([-1], 0), ([0, 0], 1), ([2, 1, 2], 2), ([0, 1, 2, 3], 3)):
            fails(self, BadWish, at, Keeper, MODEL, wishes)
        keeper = Keeper(MODEL, [1])
        for i in (-1, 5, 10 ** 30):
            fails_and_stays(self, keeper, NoLaw, i, "put", i, ("exact", [(1, 9, 9)], "A"))
        for row in (("exact", [(0, 0, 0)], ""), ("exact", [(1, 4, 0)], ""), ("exact", [(1, 0, 3)], ""), ("exact", [(1, 0, -1)], ""),
                    ("exact", [(1000001, 0, 0)], ""), ("exact", [(1, 0, 0), (2, 0, 0)], ""), ("exact", [(1, 0, 0)], "A"),
                    ("sized", 0, 0, [], ""), ("sized", 0, 0, [("s", 0, 1)], ""), ("sized", 0, 0, [("a", 0, 1)], ""),
                    ("sized", 0, 0, [("t", 0, 1), ("t", 0, 2)], ""), ("sized", 0, 0, [("t", 0, 0)], ""), ("sized", 0, 0, [("x-y", 0, 1)], "")):
            for i in (0, 4):
                fails_and_stays(self, keeper, NotModel, 0, "put", i, row)
        for i in (-1, 4, 10 ** 30):
            fails_and_stays(self, keeper, NoLaw, i, "drop", i)
            fails_and_stays(self, keeper, NoLaw, i, "instead", i)
            fails_and_stays(self, keeper, NoLaw, i, "exchange", i)
        fails_and_stays(self, keeper, NoLaw, 4, "exchange", 3)
        for k in (-1, 2, 3, 10 ** 30, -(10 ** 30)):
            fails_and_stays(self, keeper, OutOfRange, k, "prefer", k)
        for name in ("a", "s", "", "A", "a.", "1", "a b", "a" * 201):
            fails_and_stays(self, keeper, NotModel, 0, "more", name)
        for k in range(4):
            keeper.put(4 + k, ("exact", [(1, [3, 3, 3, 1][k], 0)], ""))
        fails_and_stays(self, keeper, TooLarge, 13, "put", 2, ("exact", [(1, 1, 0)], ""))
        keeper.put(8, ("sized", 3, 0, [("high", 3, 1)], ""))
        empty = Keeper(([], []), [])
        fails_and_stays(self, empty, NoLaw, 0, "drop", 0)
        fails_and_stays(self, empty, NoLaw, 0, "exchange", 0)
        fails_and_stays(self, empty, OutOfRange, 0, "prefer", 0)
        fails_and_stays(self, empty, NotModel, 0, "put", 0, LAW)
        fails_and_stays(self, empty, NothingToUndo, 0, "back")
        self.assertEqual(empty.put(0, ("exact", [], "f")), [])

    def test_full_models(self):
        keeper = Keeper(([f"q{j}" for j in range(30)], [("exact", [(1, 0, 0)], "")] * 40), [])
        fails_and_stays(self, keeper, NotModel, 0, "more", "more")
        fails_and_stays(self, keeper, NotModel, 0, "put", 40, ("exact", [(1, 0, 1)], ""))
        keeper.drop(39)
        self.assertEqual(keeper.put(0, ("exact", [(1, 0, 1)], "")), [(0, 1, None)])

    def test_exchanged_laws(self):
        # Point 1108: the others keep their quantities, the two keep theirs or exchange them.
        kinds = {True: 0, False: 0}
        for model in small_models(200):
            keeper = Keeper(model, [])
            for i in range(len(model[1]) - 1):
                before = dict(keeper.pairs())
                same = keeper.exchange(i)
                after = dict(keeper.pairs())
                kinds[same] += 1
                # The law that stood at i stands at i + 1 now.
                self.assertEqual({k: j for k, j in before.items() if k not in (i, i + 1)}, {k: j for k, j in after.items() if k not in (i, i + 1)})
                if same:
                    self.assertEqual((after.get(i), after.get(i + 1)), (before.get(i + 1), before.get(i)))
                else:
                    self.assertEqual((after.get(i), after.get(i + 1)), (before.get(i), before.get(i + 1)))
                    self.assertNotEqual(before.get(i), before.get(i + 1))
        self.assertGreater(min(kinds.values()), 100)

    def test_exchanged_wishes(self):
        kinds = {True: 0, False: 0}
        for model in small_models(200):
            keeper = Keeper(model, [])
            for k in range(len(model[0]) - 1):
                one, two = keeper.wishes()[k:k + 2]
                before = {j: which for which, j in keeper.pairs()}
                same = keeper.prefer(k)
                after = {j: which for which, j in keeper.pairs()}
                kinds[same] += 1
                self.assertEqual(keeper.wishes()[k:k + 2], [two, one])
                for j in range(len(model[0])):
                    if j not in (one, two):
                        self.assertEqual(after.get(j), before.get(j))
                now, own = (after.get(one), after.get(two)), (before.get(one), before.get(two))
                self.assertEqual(now, own if same else own[::-1])
                if not same:
                    self.assertNotEqual(now, own)
        self.assertGreater(min(kinds.values()), 100)

    def test_many_deeds(self):
        for seed, model in enumerate(small_models(40)):
            chance = random.Random(seed)
            wishes = chance.sample(range(len(model[0])), chance.randint(0, len(model[0])))
            keeper, now = Keeper(model, wishes), (model, row_of(model, wishes))
            past = []
            for step in range(25):
                (quantities, laws), row = now
                what = chance.randrange(6)
                if what == 0 and len(quantities) < 6:
                    keeper.more(f"m{step}")
                    after = ((quantities + [f"m{step}"], laws), row + [len(quantities)])
                elif what == 1 and laws:
                    i = chance.randrange(len(laws))
                    after = ((quantities, laws[:i] + laws[i + 1:]), row)
                    self.assertEqual(keeper.drop(i), slow_chain((quantities, laws), list(range(len(laws))), row, i))
                elif what == 2 and len(laws) > 1:
                    i = chance.randrange(len(laws) - 1)
                    after = ((quantities, laws[:i] + [laws[i + 1], laws[i]] + laws[i + 2:]), row)
                    before, same = dict(keeper.pairs()), keeper.exchange(i)
                    pairs = dict(keeper.pairs())
                    self.assertIs(same, (pairs.get(i + 1), pairs.get(i)) == (before.get(i), before.get(i + 1)))
                elif what == 3 and len(row) > 1:
                    k = chance.randrange(len(row) - 1)
                    after = ((quantities, laws), row[:k] + [row[k + 1], row[k]] + row[k + 2:])
                    keeper.prefer(k)
                elif what == 4 and past:
                    keeper.back()
                    now = past.pop()
                    self.agree(keeper, *now)
                    continue
                elif quantities:
                    i, law = chance.randint(0, len(laws)), made_up(chance.randrange(999), len(quantities), 1, 0.6, 2, 3, 1)[1][0]
                    if law[0] == "sized":
                        law = law[:3] + ([(f"n{step}.{size}", k, j) for size, k, j in law[3]], law[4])
                    after = ((quantities, laws[:i] + [law] + laws[i:]), row)
                    self.assertEqual(keeper.put(i, law), slow_chain(after[0], list(range(len(laws) + 1)), row, i))
                else:
                    continue
                past.append(now)
                now = after
                self.agree(keeper, *now)
            while past:
                keeper.back()
                now = past.pop()
                self.assertEqual((keeper.model(), keeper.wishes()), now)
            fails_and_stays(self, keeper, NothingToUndo, 0, "back")

    def test_a_hundred_and_fifty_changes(self):
        keeper = Keeper(MODEL, [])
        states = []
        for step in range(150):
            states.append((keeper.model(), keeper.wishes()))
            if step % 5 == 4:
                keeper.drop(0)
            elif step % 5 == 3:
                keeper.exchange(0)
            elif step % 5 == 2:
                keeper.prefer(step % 2)
            else:
                keeper.put(step % 3, ("sized", 0, step % 3, [(f"t{step}", 0, (step + 1) % 3)], "") if step % 2 else LAW[:1] + ([(1, 0, 1)], ""))
            if len(keeper.model()[1]) > 12:
                keeper.drop(1)
                keeper.back()
        while states:
            keeper.back()
            self.assertEqual((keeper.model(), keeper.wishes()), states.pop())
        self.agree(keeper, MODEL, [0, 1, 2])
        fails_and_stays(self, keeper, NothingToUndo, 0, "back")

    def test_copies(self):
        keeper = Keeper(MODEL, [1])
        keeper.put(4, LAW)
        keeper.more("d")
        other = keeper.copy()
        self.assertEqual(told(other), told(keeper))
        before = told(keeper)
        other.drop(0)
        other.prefer(0)
        self.assertEqual(told(keeper), before)
        keeper.back()
        self.assertEqual(len(other.model()[0]), 4)
        for _ in range(4):
            other.back()
        self.agree(other, MODEL, [1, 0, 2])
        fails_and_stays(self, other, NothingToUndo, 0, "back")
        keeper.back()
        self.agree(keeper, MODEL, [1, 0, 2])
        fails_and_stays(self, keeper, NothingToUndo, 0, "back")

    def test_nothing_is_kept(self):
        model, wishes, law = deepcopy(MODEL), [2, 1], deepcopy(LAW)
        keeper = Keeper(model, wishes)
        spoil((model, wishes))
        self.agree(keeper, MODEL, [2, 1, 0])
        found = keeper.put(0, law)
        spoil((law, found))
        self.assertEqual(keeper.model()[1][0], LAW)
        self.assertEqual(len(lists_in(keeper.model())), len(lists_in(deepcopy(keeper.model()))))
        spoil(keeper.drop(0))
        self.agree(keeper, MODEL, [2, 1, 0])
        spoil(keeper.model())
        keeper.back()
        keeper.back()
        self.agree(keeper, MODEL, [2, 1, 0])


if __name__ == "__main__":
    unittest.main()
