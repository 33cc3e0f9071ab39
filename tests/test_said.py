import random
import unittest
from fractions import Fraction
from math import lcm

from tests.helpers import fails, fresh, made_up, slow_rank
from tests.slow_grids import slow_beginnings
from tests.test_good import said_by_hand, sizes_in, square_models
from unsaidsizes.begin.depth import depths, index
from unsaidsizes.begin.relax import beginnings
from unsaidsizes.errors import BadSize, NoSize, NotFull, NotSquare, OutOfRange, TooLarge, TooMany, WrongSize
from unsaidsizes.marks.grids import exact_rows, grid_of
from unsaidsizes.models.model import is_model
from unsaidsizes.runs.said import is_ordinary, said_grid, say

MODEL = (["a", "b"], [
    ("sized", 1, 0, [("s", 0, 0), ("t", 2, 1), ("u", 0, 1)], ""), ("exact", [(3, 0, 0)], "f"),
    ("sized", 0, 1, [("v", 1, 0), ("w", 1, 1)], "g")])


def sums(told, numbers):
    """The sum of a law, all on one side, with what stands at each place; its source counts as a quantity."""
    found = {}
    if told[0] == "exact":
        for number, k, j in told[1]:
            found[k, j] = {"": Fraction(number)}
        source = told[2]
    else:
        found[told[1], told[2]] = {"": Fraction(1)}
        for size, k, j in told[3]:
            found[k, j] = {"": -numbers[size]} if size in numbers else {size: Fraction(-1)}
        source = told[4]
    if source:
        found["source"] = {source: Fraction(-1)}
    return {place: own for place, own in found.items() if any(own.values())}


def put_in(told, further, many):
    """The sum of a law of a said model, with its further quantity put in."""
    found = sums(told, {})
    for place in list(found):
        if place != "source" and place[1] >= many:
            factor = found.pop(place)[""]
            for own, parts in sums(further[place[1]], {}).items():
                if own != (0, place[1]):
                    # The further law tells what the quantity is: its sum less the quantity is 0.
                    assert own not in found
                    found[own] = {name: -factor * number for name, number in parts.items()}
    return found


class TestSay(unittest.TestCase):
    def test_told(self):
        self.assertEqual(fresh(self, say, MODEL, {}), MODEL)
        # All sizes of a law without a source: no further quantity.
        self.assertEqual(fresh(self, say, MODEL, {"s": (1, 2), "u": (-2, 3), "t": (0, 1)}), (["a", "b"], [
            ("exact", [(6, 1, 0), (-3, 0, 0), (4, 0, 1)], ""), MODEL[1][1], MODEL[1][2]]))
        # Some of them.
        self.assertEqual(fresh(self, say, MODEL, {"t": (5, 4)}), (["a", "b", "said0"], [
            ("exact", [(4, 1, 0), (-5, 2, 1), (-4, 0, 2)], ""), MODEL[1][1], MODEL[1][2],
            ("sized", 0, 2, [("s", 0, 0), ("u", 0, 1)], "")]))
        # With a source, all and some of them, also 0.
        self.assertEqual(fresh(self, say, MODEL, {"w": (1, 3), "v": (0, 1)}), (["a", "b", "said2"], [
            MODEL[1][0], MODEL[1][1], ("exact", [(3, 0, 1), (-1, 1, 1), (-3, 0, 2)], ""), ("exact", [(1, 0, 2)], "g")]))
        self.assertEqual(say(MODEL, {"w": (0, 1)}), (["a", "b", "said2"], [
            MODEL[1][0], MODEL[1][1], ("exact", [(1, 0, 1), (-1, 0, 2)], ""), ("sized", 0, 2, [("v", 1, 0)], "g")]))
        # Several laws.
        self.assertEqual(say(MODEL, {"w": (2, 1), "u": (-1, 1)}), (["a", "b", "said0", "said2"], [
            ("exact", [(1, 1, 0), (1, 0, 1), (-1, 0, 2)], ""), MODEL[1][1], ("exact", [(1, 0, 1), (-2, 1, 1), (-1, 0, 3)], ""),
            ("sized", 0, 2, [("s", 0, 0), ("t", 2, 1)], ""), ("sized", 0, 3, [("v", 1, 0)], "g")]))
        self.assertEqual(say(([], []), {}), ([], []))

    def test_all_sizes_are_0(self):
        model = (["a"], [("sized", 2, 0, [("s", 0, 0)], "")])
        self.assertEqual(say(model, {"s": (0, 1)}), (["a"], [("exact", [(1, 2, 0)], "")]))

    def test_taken_names(self):
        def named(quantities, *sizes):
            laws = [("sized", 0, 0, [(size, 1, 0)], "f") for size in sizes]
            return (quantities, laws)
        self.assertEqual(say(named(["said0"], "s"), {"s": (1, 1)})[0], ["said0", "said0x"])
        self.assertEqual(say(named(["said0x", "said0"], "s"), {"s": (1, 1)})[0], ["said0x", "said0", "said0xx"])
        self.assertEqual(say(named(["said0x"], "s"), {"s": (1, 1)})[0], ["said0x", "said0"])
        # By sizes, said ones as well; the names of sources are free.
        self.assertEqual(say(named(["a"], "said0"), {"said0": (1, 1)})[0], ["a", "said0x"])
        self.assertEqual(say(named(["a"], "s", "said0"), {"s": (1, 1)})[0], ["a", "said0x"])
        self.assertEqual(say(named(["a"], "s", "said1x", "said1"), {"said1x": (1, 1)})[0], ["a", "said1xx"])
        self.assertEqual(say((["a"], [("sized", 0, 0, [("s", 1, 0)], "said0")]), {"s": (1, 1)})[0], ["a", "said0"])
        # By further quantities: their names differ by the numbers of the laws, with x behind them.
        sizes = ["s", "t"]
        self.assertEqual(say(named(["a"], *sizes), {"s": (1, 1), "t": (1, 1)})[0], ["a", "said0", "said1"])
        # A quantity named said1 with x's makes the name of law 1 longer, that of law 11 stays.
        many = [f"s{k}" for k in range(12)]
        told = say(named(["said1", "said11"], *many), {name: (1, 1) for name in many})[0]
        self.assertEqual(told[2:], ["said0", "said1x"] + [f"said{k}" for k in range(2, 11)] + ["said11x"])

    def test_very_long_names(self):
        quantities = ["said0" + "x" * k for k in range(25)] + ["said0" + "x" * 195]
        model = (quantities, [("sized", 0, 0, [("s", 1, 0)], "f")])
        self.assertEqual(say(model, {"s": (1, 1)})[0][-1], "said0" + "x" * 25)
        names = ["said28" + "x" * k for k in range(195)]
        places = [(k, j) for j in range(2) for k in range(4)]
        laws = []
        for i in range(28):
            own = names[7 * i:7 * i + 7]
            laws.append(("sized", 0, 0, [(name,) + place for name, place in zip(own, places[1:])], ""))
        model = (["a", "b"], laws + [("sized", 0, 0, [("s", 2, 0), ("t", 1, 0)], "")])
        self.assertIs(is_model(model), True)
        told = say(model, {"s": (1, 1)})
        self.assertEqual(told[0], ["a", "b", "said28" + "x" * 195])
        self.assertIs(is_model(told), False)
        self.assertIs(is_model(say(model, {"s": (1, 1), names[3]: (1, 1), "t": (0, 1)})), True)

    def test_no_size(self):
        for known, at in (({"a": (1, 1)}, 0), ({"s": (1, 1), "x": (1, 1)}, 1), ({"t": (1, 1), "r": (1, 1)}, 0), ({"f": (1, 1)}, 0),
                          ({"w": (1, 1), "v": (1, 1), "s": (1, 1), "u": (1, 1), "uu": (1, 1), "t": (0, 1)}, 3),
                          ({"": (1, 1)}, 0), ({"zz": (1, 1), "S": (1, 1)}, 0), ({"s": (1, 1), "Z": (1, 1), "~": (1, 1)}, 0)):
            fails(self, NoSize, at, say, MODEL, known)
        fails(self, NoSize, 0, say, ([], []), {"s": (1, 1)})

    def test_out_of_range(self):
        # 991, 997 and 1000 have no common divisors.
        fails(self, OutOfRange, 0, say, MODEL, {"s": (1, 991), "t": (1, 997), "u": (1, 1000)})
        later = (MODEL[0], MODEL[1][1:] + MODEL[1][:1])
        fails(self, OutOfRange, 2, say, later, {"s": (1, 991), "t": (1, 997), "u": (1, 1000), "v": (1, 999)})
        fails(self, OutOfRange, 0, say, MODEL, {"s": (1000, 999), "t": (1, 1000), "u": (1, 7), "v": (1, 1)})
        # 1,000,000 just fits: 1000 times 1000, and 1000 is the common multiple.
        told = say(MODEL, {"s": (1000, 1), "u": (1, 1000), "t": (-1000, 1)})
        self.assertEqual(told[1][0], ("exact", [(1000, 1, 0), (-1000000, 0, 0), (1000000, 2, 1), (-1, 0, 1)], ""))
        self.assertEqual(say(MODEL, {"s": (1, 1000), "t": (1, 999)})[1][0][1][0], (999000, 1, 0))
        self.assertEqual(say(MODEL, {"s": (1, 1000), "t": (1, 999)})[1][0][1][3], (-999000, 0, 2))
        fails(self, OutOfRange, 0, say, MODEL, {"s": (1000, 999), "t": (1, 1000), "u": (1, 7)})
        # 1000 * 1001 passes it, with either sign, although the factor is small.
        for n in (1000, -1000):
            big = (["a"], [("exact", [], ""), ("sized", 0, 0, [("s", 1, 0), ("t", 2, 0), ("r", 3, 0)], "")])
            fails(self, OutOfRange, 1, say, big, {"s": (n, 1), "t": (1, 7), "r": (1, 143)})
            self.assertEqual(say(big, {"s": (n, 1), "t": (1, 1000)})[1][1][1][1], (-1000 * n, 1, 0))

    def test_order_of_errors(self):
        far = {"s": (1, 991), "t": (1, 997), "u": (1, 1000)}
        fails(self, NoSize, 3, say, MODEL, far | {"zz": (1, 1)})
        names = [f"q{k}" for k in range(30)]
        laws = [("sized", 0, k, [(f"s{k}", 1, k)], "f") for k in range(30)]
        fails(self, TooMany, 31, say, (names, laws), {"s0": (1, 1)})
        fails(self, TooMany, 60, say, (names, laws), {f"s{k}": (1, 1) for k in range(30)})
        fails(self, TooMany, 31, say, (names[:29], laws[:29]), {"s0": (1, 1), "s1": (1, 1)})
        self.assertEqual(len(say((names[:29], laws[:29]), {"s0": (1, 1)})[0]), 30)
        self.assertEqual(len(say((names, [told[:4] + ("",) for told in laws]), {f"s{k}": (1, 1) for k in range(30)})[1]), 30)
        forty = [("sized", 0, 0, [(f"s{k}", 1, 1)], "f") for k in range(40)]
        fails(self, TooMany, 41, say, (["a", "b"], forty), {"s3": (1, 1)})
        fails(self, TooMany, 50, say, (["a", "b"], forty), {f"s{k}": (1, 1) for k in range(10)})
        fails(self, TooMany, 31, say, (["a", "b"], forty), {f"s{k}": (1, 1) for k in range(29)})
        self.assertEqual(len(say((["a", "b"], forty[:39]), {"s38": (1, 1)})[1]), 40)
        wide = [("sized", 0, 0, [("r", 1, 0), ("s", 2, 0), ("t", 3, 0)], "f")] + [("exact", [], "")] * 39
        fails(self, OutOfRange, 0, say, (names, wide), {"r": (1, 991), "s": (1, 997), "t": (1, 1000)})
        fails(self, NoSize, 1, say, (names, wide), {"r": (1, 991), "rr": (1, 997)})

    def test_full_models(self):
        # 30 quantities and 40 laws, nothing further is needed.
        names = [f"q{k}" for k in range(30)]
        laws = [("sized", k % 4, k % 30, [(f"a{k}", (k + 1) % 4, k % 30), (f"b{k}", 0, (k + 7) % 30)], "") for k in range(40)]
        known = {f"{letter}{k}": (k, 1) if k < 2 else (1, k) for k in range(40) for letter in "ab"}
        told = say((names, laws), known)
        self.assertEqual(told[0], names)
        self.assertTrue(all(one[0] == "exact" for one in told[1]))
        self.assertIs(is_model(told), True)
        self.assertEqual(len(told[1]), 40)

    def test_made_up(self):
        chance = random.Random(701)
        for seed in range(150):
            n = chance.randint(1, 5)
            model = made_up(seed, n, chance.randint(1, 6), 0.3, 3, 3, 6)
            sizes = sizes_in(model)
            known = {size: chance.choice([(0, 1), (1, 2), (-2, 3), (5, 1), (7, 6)]) for size in sizes if chance.random() < 0.5}
            told = fresh(self, say, model, known)
            self.assertIs(is_model(told), True)
            quantities, laws = told
            self.assertEqual(quantities[:n], model[0])
            numbers = {size: Fraction(*one) for size, one in known.items()}
            further = dict(zip(range(n, len(quantities)), laws[len(model[1]):]))
            self.assertEqual(len(laws) - len(model[1]), len(quantities) - n)
            for old, new in zip(model[1], laws):
                own = [size for size, _, _ in old[3] if size in known] if old[0] == "sized" else []
                if not own:
                    self.assertEqual(new, old)
                    continue
                below = lcm(*[known[size][1] for size in own])
                want = {place: {name: below * number for name, number in parts.items()}
                        for place, parts in sums(old, numbers).items()}
                self.assertEqual(put_in(new, further, n), want)
            self.assertEqual([size for size in sizes if size not in known], sorted(sizes_in(told), key=sizes.index))
            self.assertLessEqual(slow_rank(told), slow_rank(model) + len(further))


class TestSaidGrid(unittest.TestCase):
    SQUARE = (["a", "b", "c"], MODEL[1])

    def test_told(self):
        sizes = [(1, 2), (0, 1), (-2, 3), (1, 5), (4, 1)]
        self.assertEqual(fresh(self, said_grid, self.SQUARE, sizes), ([
            ("exact", [[-3, 6], [4], []]), ("exact", [[3], [], []]), ("exact", [[0, -1], [5, -20], []])], [6, 1, 5]))
        self.assertEqual(fresh(self, said_grid, ([], []), []), ([], []))
        self.assertEqual(said_grid((["a"], [("sized", 2, 0, [("s", 3, 0)], "f")]), [(0, 1)]), ([("exact", [[0, 0, 1]])], [1]))
        self.assertEqual(said_grid((["a"], [("exact", [(5, 1, 0)], "f")]), []), ([("exact", [[0, 5]])], [1]))

    def test_made_up(self):
        chance = random.Random(703)
        for model in square_models(60, 7031):
            sizes = [chance.choice([(0, 1), (1, 2), (-2, 3), (5, 1), (7, 6)]) for _ in sizes_in(model)]
            grid, factors = fresh(self, said_grid, model, sizes)
            at = 0
            for (_, row), (_, hand), factor, told in zip(grid, said_by_hand(model, sizes), factors, model[1]):
                if told[0] == "exact":
                    self.assertEqual((row, factor), (hand, 1))
                    continue
                own = sizes[at:at + len(told[3])]
                at += len(own)
                self.assertEqual(factor, lcm(*[d for _, d in own]))
                # The row by hand is a multiple of it; in front stands the factor.
                whole = 1
                for _, d in own:
                    whole *= d
                self.assertEqual([[number * whole for number in one] for one in row], [[number * factor for number in one] for one in hand])
                self.assertEqual(row[told[2]][told[1]], factor)

    def test_errors(self):
        fine = [(1, 2), (0, 1), (-2, 3), (1, 5), (4, 1)]
        fails(self, NotSquare, 3, said_grid, MODEL, [])
        fails(self, TooLarge, 17, said_grid, ([f"q{k}" for k in range(17)], [("exact", [], "")] * 17), [(9, 9)])
        for many in (0, 4, 6):
            fails(self, WrongSize, many, said_grid, self.SQUARE, ([(2, 2)] + fine)[:many] if many else [])
        for k in range(5):
            for size in ((2, 2), (0, 3), (1, 0), (1, -2), (1001, 1), (1, 1001), (-1001, 7), (10 ** 30, 1)):
                sizes = fine[:k] + [size] + [(4, 2)] * (4 - k)
                fails(self, BadSize, k, said_grid, self.SQUARE, sizes)
        far = [(1, 991), (1, 997), (1, 1000)]
        fails(self, OutOfRange, 0, said_grid, self.SQUARE, far + fine[3:])
        later = (["a", "b", "c"], self.SQUARE[1][1:] + self.SQUARE[1][:1])
        fails(self, OutOfRange, 2, said_grid, later, fine[3:] + far)
        fails(self, BadSize, 3, said_grid, self.SQUARE, far + [(2, 2), (1, 1)])
        # Just kept and just passed, by the factor and by a term.
        model = (["a"], [("sized", 0, 0, [("s", 1, 0), ("t", 2, 0)], "")])
        self.assertEqual(said_grid(model, [(1, 1000), (1000, 1)]), ([("exact", [[1000, -1, -1000000]])], [1000]))
        self.assertEqual(said_grid(model, [(-1000, 1), (1, 1000)]), ([("exact", [[1000, 1000000, -1]])], [1000]))
        self.assertEqual(said_grid(model, [(1, 1000), (1, 999)])[1], [999000])
        three = (["a"], [("sized", 0, 0, [("s", 1, 0), ("t", 2, 0), ("u", 3, 0)], "")])
        self.assertEqual(said_grid(three, [(1, 64), (1, 125), (1, 125)])[1], [8000])
        fails(self, OutOfRange, 0, said_grid, three, [(1, 999), (1, 1000), (1, 7)])
        fails(self, OutOfRange, 0, said_grid, three, [(1000, 1), (1, 7), (1, 143)])
        fails(self, OutOfRange, 0, said_grid, three, [(-1000, 1), (1, 7), (1, 143)])
        self.assertEqual(said_grid(three, [(1, 1), (1, 7), (1, 143)])[1], [1001])


class TestIsOrdinary(unittest.TestCase):
    def test_told(self):
        model = (["x", "y"], [("sized", 1, 0, [("s", 1, 1), ("t", 0, 0)], "f"), ("sized", 1, 1, [("u", 1, 0), ("v", 0, 1)], "")])
        for sizes, told in (([(2, 1), (1, 1), (1, 3), (1, 1)], True), ([(2, 1), (1, 1), (1, 2), (1, 1)], False),
                            ([(0, 1)] * 4, True), ([(1, 1)] * 4, False), ([(-1, 1), (0, 1), (-1, 1), (0, 1)], False)):
            self.assertIs(fresh(self, is_ordinary, model, sizes), told)
        self.assertIs(is_ordinary(([], []), []), True)

    def test_made_up(self):
        chance = random.Random(704)
        both = set()
        for model in square_models(150, 7041):
            sizes = [chance.choice([(0, 1), (1, 1), (1, 1), (-1, 1), (1, 2), (2, 1)]) for _ in sizes_in(model)]
            told = is_ordinary(model, sizes)
            self.assertIs(told, slow_beginnings(said_by_hand(model, sizes)) == beginnings(grid_of(model)))
            both.add(told)
            if told:
                # No depth is greater, and none comes where there was none.
                said, _ = said_grid(model, sizes)
                for own, before in zip(depths(said), depths(grid_of(model))):
                    for one, two in zip(own, before):
                        self.assertTrue(one is None or (two is not None and one <= two))
                self.assertLessEqual(index(said), index(grid_of(model)))
                self.assertEqual(len(exact_rows(said)), len(said))
        self.assertEqual(both, {True, False})

    def test_order_of_errors(self):
        fails(self, NotSquare, 3, is_ordinary, MODEL, [])
        fails(self, TooLarge, 17, is_ordinary, ([f"q{k}" for k in range(17)], [("exact", [], "")] * 17), [])
        # b is in one law only with a, c in none.
        singular = (["a", "b", "c"], MODEL[1])
        for sizes in ([], [(2, 2)] * 5, [(1, 991), (1, 997), (1, 1000), (1, 1), (1, 1)], [(1, 1)] * 5):
            fails(self, NotFull, 2, is_ordinary, singular, sizes)
        full = (["a", "b", "c"], MODEL[1][:2] + [("sized", 0, 1, [("v", 1, 0), ("w", 1, 2)], "g")])
        fails(self, WrongSize, 4, is_ordinary, full, [(2, 2)] * 4)
        fails(self, BadSize, 0, is_ordinary, full, [(2, 2)] * 5)
        fails(self, BadSize, 4, is_ordinary, full, [(1, 991), (1, 997), (1, 1000), (1, 1), (0, 2)])
        fails(self, OutOfRange, 0, is_ordinary, full, [(1, 991), (1, 997), (1, 1000), (1, 1), (1, 1)])
        fails(self, NotFull, 0, is_ordinary, (["a"], [("exact", [], "")]), [])


if __name__ == "__main__":
    unittest.main()
