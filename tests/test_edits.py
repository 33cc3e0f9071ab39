import random
import unittest

from tests.helpers import fails, fresh, small_models
from unsaidsizes.errors import Needed, NoLaw, NoQuantity, NoSize, NotModel, OutOfRange, TooLarge, TooMany
from unsaidsizes.models.model import is_model, sizes_of
from unsaidsizes.runs.said import say
from unsaidsizes.store.edits import edited

MODEL = (["a", "b", "c"], [
    ("exact", [(1, 0, 0), (2, 1, 1)], "f"), ("sized", 0, 2, [("s", 1, 1), ("t", 0, 1)], ""), ("exact", [], "")])
# A law that is spoilt in one place each time.
SPOILT = [
    ("exact", [(0, 0, 0)], ""), ("exact", [(1000001, 0, 0)], ""), ("exact", [(-1000001, 0, 0)], ""), ("exact", [(1, 4, 0)], ""),
    ("exact", [(1, -1, 0)], ""), ("exact", [(1, 0, 3)], ""), ("exact", [(1, 0, -1)], ""), ("exact", [(1, 0, 10 ** 30)], ""),
    ("exact", [(1, 0, 0), (2, 0, 0)], ""), ("exact", [(1, 0, 0)], "F"), ("exact", [(1, 0, 0)], "f."), ("exact", [(1, 0, 0)], " "),
    ("exact", [(1, 0, 0)], "f" * 201), ("sized", 0, 0, [], ""), ("sized", 4, 0, [("u", 0, 1)], ""), ("sized", -1, 0, [("u", 0, 1)], ""),
    ("sized", 0, 3, [("u", 0, 1)], ""), ("sized", 0, 0, [("u", 0, 3)], ""), ("sized", 0, 0, [("u", 4, 1)], ""), ("sized", 0, 0, [("u", 0, 0)], ""),
    ("sized", 0, 0, [("u", 0, 1), ("v", 0, 1)], ""), ("sized", 0, 0, [("u", 0, 1), ("u", 0, 2)], ""), ("sized", 0, 0, [("a", 0, 1)], ""),
    ("sized", 0, 0, [("U", 0, 1)], ""), ("sized", 0, 0, [("", 0, 1)], ""), ("sized", 0, 0, [("u", 0, 1)], "-")]
GOOD = [("exact", [], ""), ("exact", [(-1000000, 3, 2)], "g.x"), ("sized", 3, 0, [("u", 3, 1), ("v.w", 2, 0)], "f")]


class TestEdited(unittest.TestCase):
    def test_told(self):
        quantities, laws = MODEL
        for edit, told in (
                (("add", GOOD[1]), (quantities, laws + [GOOD[1]])), (("drop", 0), (quantities, laws[1:])), (("drop", 2), (quantities, laws[:2])),
                (("put", 1, GOOD[2]), (quantities, [laws[0], GOOD[2], laws[2]])), (("put", 2, GOOD[0]), (quantities, laws[:2] + [GOOD[0]])),
                (("quantity", "d.e"), (quantities + ["d.e"], laws)), (("say", {}), MODEL), (("say", {"s": (1, 2)}), say(MODEL, {"s": (1, 2)})),
                (("say", {"s": (1, 2), "t": (0, 1)}), (quantities, [laws[0], ("exact", [(2, 0, 2), (-1, 1, 1)], ""), laws[2]]))):
            self.assertEqual(fresh(self, edited, MODEL, edit), told, edit)

    def test_laws_with_indexes(self):
        for law in GOOD:
            self.assertEqual(fresh(self, edited, MODEL, ("add", law))[1][3], law)
            for i in range(3):
                self.assertEqual(fresh(self, edited, MODEL, ("put", i, law))[1], MODEL[1][:i] + [law] + MODEL[1][i + 1:])
        for i in (-2, -1, 3, 4, 10 ** 30):
            fails(self, NoLaw, i, edited, MODEL, ("drop", i))
            for law in GOOD + SPOILT:
                fails(self, NoLaw, i, edited, MODEL, ("put", i, law))
        fails(self, NoLaw, 0, edited, ([], []), ("drop", 0))

    def test_spoilt_laws(self):
        for law in SPOILT:
            fails(self, NotModel, 0, edited, MODEL, ("add", law))
            for i in range(3):
                fails(self, NotModel, 0, edited, MODEL, ("put", i, law))
        # A size that is taken may take the place of itself.
        law = ("sized", 0, 0, [("t", 0, 1)], "")
        fails(self, NotModel, 0, edited, MODEL, ("add", law))
        fails(self, NotModel, 0, edited, MODEL, ("put", 0, law))
        self.assertEqual(edited(MODEL, ("put", 1, law))[1][1], law)

    def test_quantities(self):
        for name in ("a", "s", "t", "", "A", "1", "d.", ".d", "d..e", "d e", "d-e", "d.1", "d" * 201):
            fails(self, NotModel, 0, edited, MODEL, ("quantity", name))
        for name in ("d", "f", "d1.e2", "d" * 200):
            self.assertEqual(fresh(self, edited, MODEL, ("quantity", name)), (["a", "b", "c", name], MODEL[1]))
        full = ([f"q{j}" for j in range(30)], [("exact", [], "")] * 40)
        fails(self, NotModel, 0, edited, full, ("quantity", "more"))
        fails(self, NotModel, 0, edited, full, ("add", ("exact", [], "")))
        self.assertEqual(len(edited(full, ("put", 39, GOOD[1]))[1]), 40)

    def test_leave(self):
        model = (["a", "b", "c", "d"], [("exact", [], ""), ("exact", [(1, 0, 3)], "f"), ("sized", 1, 2, [("s", 0, 3)], "f"), ("exact", [(2, 0, 0)], "")])
        self.assertEqual(fresh(self, edited, model, ("leave", "b")), (["a", "c", "d"], [
            ("exact", [], ""), ("exact", [(1, 0, 2)], "f"), ("sized", 1, 1, [("s", 0, 2)], "f"), ("exact", [(2, 0, 0)], "")]))
        for name, at in (("a", 3), ("c", 2), ("d", 1)):
            fails(self, Needed, at, edited, model, ("leave", name))
        for name in ("", "e", "s", "f", "A", "a.b", "B"):
            fails(self, NoQuantity, 0, edited, model, ("leave", name))
        self.assertEqual(edited((["a"], []), ("leave", "a")), ([], []))
        self.assertEqual(edited((["a", "b"], [("exact", [(1, 0, 0)], "")]), ("leave", "b")), (["a"], [("exact", [(1, 0, 0)], "")]))

    def test_say(self):
        model = (["a", "b"], [("sized", 3, 0, [("s", 0, 1), ("t", 3, 1)], "f"), ("sized", 0, 1, [("u", 2, 0)], "")])
        for known in ({}, {"s": (1, 2)}, {"s": (1, 2), "t": (-3, 1)}, {"u": (0, 1)}, {"s": (1, 2), "t": (-3, 1), "u": (7, 9)}):
            self.assertEqual(fresh(self, edited, model, ("say", known)), say(model, known))
        for known, at in (({"x": (1, 1)}, 0), ({"s": (1, 1), "z": (1, 1)}, 1), ({"a": (1, 1), "s": (1, 1)}, 0), ({"": (1, 1)}, 0)):
            fails(self, NoSize, at, edited, model, ("say", known))
        wide = (["a", "b", "c"], [("exact", [], ""), ("sized", 0, 0, [("s", 0, 1), ("t", 0, 2), ("u", 1, 2)], "")])
        self.assertEqual(edited(wide, ("say", {"s": (1, 999), "t": (1, 1000)}))[1][1][1][0], (999000, 0, 0))
        fails(self, OutOfRange, 1, edited, wide, ("say", {"s": (1, 997), "t": (1, 991), "u": (1, 983)}))
        fails(self, OutOfRange, 1, edited, wide, ("say", {"s": (1, 999), "t": (1000, 1), "u": (1, 2)}))
        full = ([f"q{j}" for j in range(30)], [("sized", 0, 0, [("s", 0, 1)], "f")])
        fails(self, TooMany, 31, edited, full, ("say", {"s": (1, 1)}))
        self.assertEqual(edited(full[:1] + ([("sized", 0, 0, [("s", 0, 1)], "")],), ("say", {"s": (1, 1)}))[1], [("exact", [(1, 0, 0), (-1, 0, 1)], "")])
        many = (["a", "b"], [("sized", 0, 0, [("s", 0, 1)], "f")] + [("exact", [], "")] * 39)
        fails(self, TooMany, 41, edited, many, ("say", {"s": (1, 1)}))

    def test_large(self):
        high = (["a"], [("exact", [(1, 3, 0)], "")] * 4)
        for law, degree in ((("exact", [(1, 1, 0)], ""), 13), (("exact", [(2, 3, 0), (1, 2, 0)], ""), 15)):
            fails(self, TooLarge, degree, edited, high, ("add", law))
            low = (high[0], high[1] + [("exact", [], "")])
            fails(self, TooLarge, degree, edited, low, ("put", 4, law))
            self.assertEqual(edited(high, ("put", 0, law))[1][0], law)
        self.assertEqual(len(edited(high, ("add", ("exact", [(1, 0, 0)], "")))[1]), 5)
        self.assertEqual(len(edited((["a", "b"], high[1]), ("add", ("sized", 3, 0, [("s", 3, 1)], "")))[1]), 5)
        # Saying makes exact laws.
        model = (["a", "b"], high[1] + [("sized", 2, 0, [("s", 1, 1), ("t", 3, 1)], "")])
        fails(self, TooLarge, 14, edited, model, ("say", {"s": (1, 2)}))
        fails(self, TooLarge, 15, edited, model, ("say", {"t": (1, 2)}))
        fails(self, TooLarge, 14, edited, model, ("say", {"s": (1, 1), "t": (0, 1)}))
        # No model comes first.
        fails(self, NotModel, 0, edited, high, ("add", ("exact", [(1, 3, 1)], "")))
        fails(self, NotModel, 0, edited, high, ("add", ("exact", [(1, 4, 0)], "")))

    def test_no_model_comes_of_saying(self):
        # The name of the further quantity may become too long.
        names = ["said0" + "x" * k for k in range(29)]
        model = (names, [("sized", 0, 0, [("said0" + "x" * 29, 0, 1), ("t", 1, 1)], "f")])
        self.assertTrue(is_model(model))
        self.assertEqual(edited(model, ("say", {"t": (1, 1)}))[0][29], "said0" + "x" * 30)
        sizes = [("said0" + "x" * k, k // 30 % 4, k % 30) for k in range(1, 100)]
        sizes2 = [("said0" + "x" * k, k // 30 % 4, k % 30) for k in range(100, 196)]
        model = (["q" if j else "said0" for j in range(1)] + [f"q{j}" for j in range(1, 30)][:28], [
            ("sized", 0, 0, [(size, k, j) for size, k, j in sizes if (k, j) != (0, 0) and j < 29], "f"),
            ("sized", 0, 0, [(size, k, j) for size, k, j in sizes2 if (k, j) != (0, 0) and j < 29], "f")])
        missing = [k for k in range(1, 196) if "said0" + "x" * k not in sizes_of(model)]
        model[1].append(("sized", 0, 1, [("said0" + "x" * k, at // 29, at % 29) for at, k in enumerate(missing, 2)], "f"))
        self.assertTrue(is_model(model))
        self.assertEqual(len(say(model, {"said0x": (1, 1)})[0][-1]), 201)
        fails(self, NotModel, 0, edited, model, ("say", {"said0x": (1, 1)}))

    def test_always_a_model(self):
        chance = random.Random(801)
        for model in small_models(80):
            for _ in range(10):
                many, laws = len(model[0]), len(model[1])
                edit = chance.choice([("drop", chance.randint(-1, laws)), ("quantity", chance.choice(["x", "q0", "s0"])),
                                      ("leave", f"q{chance.randint(0, many)}"), ("add", ("exact", [(1, 2, chance.randint(0, many))], "")),
                                      ("say", {name: (1, 3) for name in sizes_of(model) if chance.random() < 0.5})])
                try:
                    found = edited(model, edit)
                except (NoLaw, NotModel, NoQuantity, Needed, TooLarge):
                    continue
                self.assertTrue(is_model(found))


if __name__ == "__main__":
    unittest.main()
