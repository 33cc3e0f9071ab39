import random
import unittest
from copy import deepcopy

from tests.helpers import fails, made_up, small_models, spoil
from tests.test_promises import CHAIN
from unsaidsizes.errors import (
    ModelError, Needed, NoLaw, NoPromise, NoQuantity, NoSize, NothingToUndo, NotModel, Refused, TooLarge, TooMany)
from unsaidsizes.models.model import sizes_of
from unsaidsizes.store.edits import edited
from unsaidsizes.store.promises import holds, reason
from unsaidsizes.store.store import Store

LAW = ("exact", [(1, 0, 0), (-1, 2, 4)], "g")


def state(store):
    """All that a store tells, tested to be new each time."""
    first = (store.model(), store.promises(), store.edits())
    saved = deepcopy(first)
    spoil(first)
    second = (store.model(), store.promises(), store.edits())
    assert second == saved
    return second


def fails_and_stays(test, store, error, at, name, *args):
    before = state(store)
    fails(test, error, at, getattr(store, name), *args)
    test.assertEqual(state(store), before)


class TestStore(unittest.TestCase):
    def test_made(self):
        self.assertEqual(state(Store(CHAIN)), (CHAIN, [], []))
        self.assertEqual(state(Store(([], []))), (([], []), [], []))
        for model in ((["a", "a"], []), (["A"], []), (["a"], [("exact", [(1, 0, 1)], "")]), (["a"] * 31, []), (["a"], [("exact", [(1, 3, 0)], "")] * 41),
                      (["a", "s"], [("sized", 0, 0, [("s", 0, 1)], "")])):
            fails(self, NotModel, 0, Store, model)
        for degrees, at in (([3, 3, 3, 3, 1], 13), ([3] * 40, 120), ([3, 3, 3, 2, 2], 13)):
            fails(self, TooLarge, at, Store, (["a"], [("exact", [(1, k, 0)], "") for k in degrees]))
        self.assertEqual(len(Store((["a"], [("exact", [(1, 3, 0)], "")] * 4)).model()[1]), 4)

    def test_edits(self):
        store, model, done = Store(CHAIN), CHAIN, []
        for edit in (("add", LAW), ("quantity", "z"), ("put", 0, ("exact", [(3, 1, 5)], "")), ("drop", 5), ("say", {"t": (1, 2)}), ("drop", 0),
                     ("leave", "z"), ("say", {})):
            self.assertIsNone(store.why(edit))
            self.assertIsNone(store.edit(edit))
            model = edited(model, edit)
            done.append(edit)
            self.assertEqual(state(store), (model, [], done))
        for edit, error, at in ((("drop", -1), NoLaw, -1), (("drop", 9), NoLaw, 9), (("put", 9, LAW), NoLaw, 9), (("leave", "z"), NoQuantity, 0),
                                (("leave", "e"), Needed, 3), (("quantity", "a"), NotModel, 0), (("say", {"t": (1, 1)}), NoSize, 0),
                                (("add", ("exact", [(0, 0, 0)], "")), NotModel, 0), (("leave", ""), NoQuantity, 0)):
            fails_and_stays(self, store, error, at, "edit", edit)
            fails_and_stays(self, store, error, at, "why", edit)
        high = Store((["a"], [("exact", [(1, 3, 0)], "")] * 4))
        fails_and_stays(self, high, TooLarge, 14, "edit", ("add", ("exact", [(1, 2, 0)], "")))

    def test_back(self):
        store = Store(CHAIN)
        fails_and_stays(self, store, NothingToUndo, 0, "back")
        edits = [("add", LAW), ("quantity", "z"), ("say", {"s": (1, 3)}), ("drop", 0), ("leave", "z")]
        models = []
        for edit in edits:
            models.append(store.model())
            store.edit(edit)
        while edits:
            self.assertEqual(store.back(), edits.pop())
            self.assertEqual(store.model(), models.pop())
            self.assertEqual(store.edits(), edits)
        fails_and_stays(self, store, NothingToUndo, 0, "back")

    def test_promises(self):
        store = Store(CHAIN)
        told = [("whole",), ("begins", 2), ("ahead", "a", "c"), ("watched", ["a", "e"], 0), ("whole",)]
        for k, promise in enumerate(told):
            self.assertEqual(store.promise(promise), k)
        self.assertEqual(state(store), (CHAIN, told, []))
        for promise in (("begins", 1), ("tied", "x"), ("steered",), ("apart", "a", "b"), ("sure",)):
            if not holds(CHAIN, promise):
                fails_and_stays(self, store, Refused, 5, "promise", promise)
        for k in (-1, 5, 10 ** 30):
            fails_and_stays(self, store, NoPromise, k, "free", k)
        self.assertEqual(store.free(1), told.pop(1))
        self.assertEqual(store.free(2), told.pop(2))
        self.assertEqual(state(store), (CHAIN, told, []))
        self.assertEqual(store.promise(("index", 1)), 3)
        for _ in range(16):
            store.promise(("whole",))
        self.assertEqual(len(store.promises()), 20)
        for promise in (("whole",), ("begins", 1)):
            fails_and_stays(self, store, TooMany, 20, "promise", promise)
        self.assertEqual(store.free(19), ("whole",))
        fails_and_stays(self, store, Refused, 19, "promise", ("begins", 1))
        self.assertEqual(store.promise(("begins", 2)), 19)

    def test_refused(self):
        store = Store(CHAIN)
        store.promise(("tied", "a"))
        store.promise(("whole",))
        store.promise(("begins", 2))
        for edit, k in ((("drop", 0), 0), (("drop", 4), 1), (("quantity", "z"), 1), (("add", LAW), 1), (("put", 0, ("exact", [(1, 0, 0)], "")), 2)):
            fails_and_stays(self, store, Refused, k, "edit", edit)
            before = state(store)
            told = store.why(edit)
            self.assertEqual(told, (k, reason(edited(CHAIN, edit), store.promises()[k])))
            self.assertEqual(state(store), before)
        self.assertIsNone(store.why(("say", {"t": (1, 1)})))
        # An error of the edit comes first.
        fails_and_stays(self, store, NoLaw, 9, "edit", ("drop", 9))
        store.edit(("say", {"t": (1, 1)}))
        self.assertEqual(len(store.edits()), 1)

    def test_back_with_later_promises(self):
        store = Store((["a", "b"], [("exact", [(1, 1, 0)], "")]))
        store.edit(("add", ("sized", 0, 1, [("s", 1, 0)], "")))
        store.promise(("whole",))
        store.promise(("tied", "b"))
        fails_and_stays(self, store, Refused, 0, "back")
        store.free(0)
        fails_and_stays(self, store, Refused, 0, "back")
        store.free(0)
        self.assertEqual(store.back(), ("add", ("sized", 0, 1, [("s", 1, 0)], "")))
        # A promise that was given back is not looked at any more.
        fails_and_stays(self, store, NothingToUndo, 0, "back")

    def test_refused_edits_play_no_part(self):
        one, two = Store(CHAIN), Store(CHAIN)
        for store in (one, two):
            store.promise(("whole",))
        for edit in (("drop", 0), ("quantity", "z")):
            fails(self, Refused, 0, one.edit, edit)
        for store in (one, two):
            store.edit(("say", {"u": (2, 3)}))
        fails(self, Refused, 0, one.edit, ("drop", 1))
        self.assertEqual(state(one), state(two))
        self.assertEqual(one.back(), two.back())
        self.assertEqual(state(one), state(two))

    def test_many_deeds(self):
        counts = {"refused": 0, "back": 0, "wrong": 0, "done": 0}
        for seed, model in enumerate(small_models(60)):
            chance = random.Random(seed)
            store, now, promised, past = Store(model), model, [], []
            for step in range(30):
                what = chance.randrange(8)
                if what == 0:
                    names = now[0] + ["x"]
                    promise = chance.choice([("whole",), ("tied", chance.choice(names)), ("begins", chance.randint(0, 2)), ("steered",), ("sure",),
                                             ("watched", sorted(chance.sample(names, 1)), 0), ("apart", chance.choice(names), chance.choice(names))])
                    if holds(now, promise):
                        self.assertEqual(store.promise(promise), len(promised))
                        promised.append(promise)
                    else:
                        fails_and_stays(self, store, Refused, len(promised), "promise", promise)
                elif what == 1 and promised:
                    k = chance.randrange(len(promised))
                    self.assertEqual(store.free(k), promised.pop(k))
                elif what == 2 and past:
                    before = past[-1][1]
                    broken = [k for k, promise in enumerate(promised) if not holds(before, promise)]
                    if broken:
                        fails_and_stays(self, store, Refused, broken[0], "back")
                    else:
                        self.assertEqual(store.back(), past[-1][0])
                        now = past.pop()[1]
                        counts["back"] += 1
                else:
                    many = len(now[0])
                    law = made_up(chance.randrange(999), max(many, 1), 1, 0.7, 2, 3, 1)[1][0]
                    if law[0] == "sized":
                        law = law[:3] + ([(f"n{step}.{size}", k, j) for size, k, j in law[3]], law[4])
                    edit = chance.choice([("add", law), ("put", chance.randint(0, len(now[1])), law), ("drop", chance.randint(0, len(now[1]))),
                                          ("quantity", f"n{step}"), ("leave", chance.choice(now[0] + ["x"])),
                                          ("say", {name: (chance.randint(-2, 2), 1) for name in sizes_of(now)[:1]})])
                    try:
                        after = edited(now, edit)
                    except ModelError as error:
                        fails_and_stays(self, store, type(error), error.at, "edit", edit)
                        counts["wrong"] += 1
                        continue
                    broken = [k for k, promise in enumerate(promised) if not holds(after, promise)]
                    if broken:
                        fails_and_stays(self, store, Refused, broken[0], "edit", edit)
                        self.assertEqual(store.why(edit), (broken[0], reason(after, promised[broken[0]])))
                        counts["refused"] += 1
                    else:
                        self.assertIsNone(store.why(edit))
                        self.assertIsNone(store.edit(edit))
                        past.append((edit, now))
                        now = after
                        counts["done"] += 1
                self.assertEqual(state(store), (now, promised, [edit for edit, _ in past]))
                self.assertTrue(all(holds(now, promise) for promise in promised))
        self.assertGreater(min(counts.values()), 10)

    def test_copies(self):
        store = Store(CHAIN)
        store.promise(("whole",))
        store.edit(("say", {"u": (2, 3)}))
        other = store.copy()
        self.assertEqual(state(other), state(store))
        other.free(0)
        other.edit(("drop", 0))
        other.back()
        other.back()
        self.assertEqual(state(other), (CHAIN, [], []))
        self.assertEqual(state(store), (edited(CHAIN, ("say", {"u": (2, 3)})), [("whole",)], [("say", {"u": (2, 3)})]))
        store.promise(("begins", 2))
        self.assertEqual(other.promises(), [])
        fails(self, Refused, 0, store.edit, ("drop", 0))

    def test_nothing_is_kept(self):
        model, law, known, names = deepcopy(CHAIN), deepcopy(LAW), {"t": (1, 2)}, ["a", "e"]
        store = Store(model)
        spoil(model)
        self.assertEqual(store.model(), CHAIN)
        store.promise(("watched", names, 0))
        store.edit(("say", known))
        store.edit(("add", law))
        spoil((law, known, names))
        after = edited(edited(CHAIN, ("say", {"t": (1, 2)})), ("add", LAW))
        self.assertEqual(state(store), (after, [("watched", ["a", "e"], 0)], [("say", {"t": (1, 2)}), ("add", LAW)]))
        spoil(store.why(("put", 0, ("exact", [], ""))))
        spoil(store.free(0))
        spoil(store.back())
        self.assertEqual(store.back(), ("say", {"t": (1, 2)}))
        self.assertEqual(state(store), (CHAIN, [], []))


if __name__ == "__main__":
    unittest.main()
