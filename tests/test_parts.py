import random
import unittest
from copy import deepcopy

from tests.helpers import fails, fresh
from unsaidsizes.errors import BadName, NoName, NoPart, OutOfRange, SamePlace, TakenName, TooMany
from unsaidsizes.models.model import is_model
from unsaidsizes.models.parts import check_book, flatten, nodes

COIL = ("coil", ["p", "r"], ["w"], [],
        [("sized", 1, "w", [("l", 0, "p.u"), ("m", 0, "r.u")], "f"), ("exact", [(1, 0, "p.i"), (1, 0, "r.i")], ""),
         ("exact", [(2, 0, "w"), (-3, 1, "p.i")], "g")], [])
NET = ("net", ["q"], [], [("a", "coil"), ("b", "coil")], [], [["q", "a.p"], ["a.r", "b.p"]])
BOOK = [COIL, NET]


def part(name="x", ports=(), inner=(), places=(), laws=(), joints=()):
    return (name, list(ports), list(inner), list(places), list(laws), [list(joint) for joint in joints])


def short(k):
    return f"n{k}"


class TestCheckBook(unittest.TestCase):
    def raises(self, error, book, at=None):
        fails(self, error, len(book) - 1 if at is None else at, check_book, book)

    def test_books(self):
        for book in ([], BOOK, [COIL], [part()], [part("x"), part("y", places=[("x", "x")])]):
            self.assertIsNone(fresh(self, check_book, book))

    def test_names(self):
        good = ["a", "a1", "abcdefghijkl", "z23456789012"]
        bad = ["", "1a", "A", "a.b", "a_", "a b", "abcdefghijklm", "a'", ".", " a"]
        for name in good:
            self.assertIsNone(check_book([part(name)]))
            self.assertIsNone(check_book([part(ports=[name])]))
            self.assertIsNone(check_book([part(inner=[name])]))
            self.assertIsNone(check_book([part("q"), part("y", places=[(name, "q")])]))
            self.assertIsNone(check_book([part(name), part("yy", places=[("v", name)])]))
            law = ("sized", 0, "v", [(name, 1, "v")], "")
            self.assertIsNone(check_book([part(inner=["v"], laws=[law])]))
            self.assertIsNone(check_book([part(laws=[("exact", [], name)])]))
        for name in bad:
            self.raises(BadName, [COIL, part(name)])
            self.raises(BadName, [COIL, part(ports=["v", name])])
            self.raises(BadName, [COIL, part(inner=["v", name])])
            self.raises(BadName, [COIL, part(places=[("v", "coil"), (name, "coil")])])
            self.raises(BadName, [COIL, part(places=[("v", name)])])
            self.raises(BadName, [COIL, part(inner=["v"], laws=[("sized", 0, "v", [(name, 1, "v")], "")])])
            if name != "":
                self.raises(BadName, [COIL, part(inner=["v"], laws=[("sized", 0, "v", [("s", 1, "v")], name)])])
                self.raises(BadName, [COIL, part(laws=[("exact", [], name)])])

    def test_lengths(self):
        law = ("exact", [], "")
        joint = ["p", "q"]
        for count, most, made in (
                (8, 8, lambda k: part(ports=[short(n) for n in range(k)])),
                (12, 12, lambda k: part(inner=[short(n) for n in range(k)])),
                (12, 12, lambda k: part(places=[(short(n), "coil") for n in range(k)])),
                (20, 20, lambda k: part(laws=[law] * k)),
                (20, 20, lambda k: part(ports=["p", "q"], joints=[joint] * k))):
            self.assertIsNone(check_book([COIL, made(count)]))
            self.raises(TooMany, [COIL, made(most + 1)])
            self.raises(TooMany, [COIL, made(most + 200), COIL], 1)
        self.assertIsNone(check_book([part(short(n)) for n in range(12)]))
        self.raises(TooMany, [part(short(n)) for n in range(13)])
        self.raises(TooMany, [part(short(n)) for n in range(20)], 12)

    def test_taken(self):
        self.raises(TakenName, [part("x"), part("y"), part("x")])
        self.raises(TakenName, [part(ports=["a", "a"])])
        self.raises(TakenName, [part(ports=["a"], inner=["a"])])
        self.raises(TakenName, [part(inner=["b", "a", "b"])])
        self.raises(TakenName, [COIL, part(inner=["a"], places=[("a", "coil")])])
        self.raises(TakenName, [COIL, part(ports=["a"], places=[("a", "coil")])])
        self.raises(TakenName, [COIL, part(places=[("a", "coil"), ("a", "coil")])])

        def sized(*sizes):
            return ("sized", 0, "v", [(size, k + 1, "v") for k, size in enumerate(sizes)], "")
        self.raises(TakenName, [part(inner=["v"], laws=[sized("s", "s")])])
        self.raises(TakenName, [part(inner=["v"], laws=[sized("s"), sized("t", "s")])])
        self.raises(TakenName, [part(inner=["v"], laws=[sized("v")])])
        self.raises(TakenName, [part(inner=["v"], ports=["p"], laws=[sized("p")])])
        self.raises(TakenName, [COIL, part(inner=["v"], places=[("c", "coil")], laws=[sized("c")])])
        # The names of parts and sources do not count, and other parts have names of their own.
        free = part("v", ["p"], ["v"], [], [sized("x"), ("exact", [], "v"), ("exact", [], "x")], [])
        self.assertIsNone(check_book([part("x", ["p"], ["v"], laws=[sized("s")]), free]))

    def test_no_part(self):
        self.raises(NoPart, [part(places=[("a", "coil")])])
        self.raises(NoPart, [part(places=[("a", "coil")]), COIL], 0)
        self.raises(NoPart, [part("x", places=[("a", "x")])])
        self.raises(NoPart, [COIL, part(places=[("a", "coil"), ("b", "coils")])])

    def test_no_name(self):
        for text in ("v", "p", "p.x", "q.u", "w.u", "a.p.u", "a.w", "", "p.u'", "c"):
            exact = ("exact", [(1, 0, "w"), (1, 0, text)], "")
            front = ("sized", 0, text, [("s", 0, "w")], "")
            term = ("sized", 0, "w", [("s", 0, text)], "")
            for law in (exact, front, term):
                self.raises(NoName, [COIL, part(ports=["p"], inner=["w"], places=[("a", "coil")], laws=[law])])
        for text in ("p.u", "p.i", "w"):
            told = part(ports=["p"], inner=["w"], laws=[("sized", 2, text, [("s", 0, text)], "")])
            self.assertIsNone(check_book([told]))
        for text in ("w", "r", "p.u", "a", "a.w", "a.p.u", "b.p", "a.q", "", "a.", ".p"):
            self.raises(NoName, [COIL, part(ports=["p"], inner=["w"], places=[("a", "coil")], joints=[["a.p", text]])])
        self.assertIsNone(check_book([COIL, part(ports=["p"], places=[("a", "coil")], joints=[["p", "a.r", "a.p"]])]))

    def test_out_of_range(self):
        def exact(number, k):
            return [part(inner=["v", "w"], laws=[("exact", [(1, 0, "v"), (number, k, "w")], "")])]

        def sized(first, k):
            return [part(inner=["v", "w"], laws=[("sized", first, "v", [("s", k, "w")], "")])]
        for number in (1, -1, 1000000, -1000000):
            self.assertIsNone(check_book(exact(number, 3)))
        for number in (0, 1000001, -1000001, 10 ** 5000):
            self.raises(OutOfRange, exact(number, 0))
        for k in (-1, 4, 10 ** 40):
            self.raises(OutOfRange, exact(1, k))
            self.raises(OutOfRange, sized(k, 0))
            self.raises(OutOfRange, sized(0, k))
        self.assertIsNone(check_book(sized(3, 3)))
        self.raises(OutOfRange, [part(inner=["v"], laws=[("sized", 0, "v", [], "")])])
        self.raises(OutOfRange, [part(ports=["p"], joints=[[]])])
        self.raises(OutOfRange, [part(ports=["p"], joints=[["p"]])])

    def test_same_place(self):
        self.raises(SamePlace, [part(inner=["v"], laws=[("exact", [(1, 0, "v"), (2, 0, "v")], "")])])
        self.raises(SamePlace, [part(inner=["v"], laws=[("sized", 0, "v", [("s", 0, "v")], "")])])
        self.raises(SamePlace, [part(inner=["v"], laws=[("sized", 1, "v", [("s", 0, "v"), ("t", 0, "v")], "")])])
        self.raises(SamePlace, [part(ports=["p"], joints=[["p", "p"]])])
        self.raises(SamePlace, [COIL, part(places=[("a", "coil")], joints=[["a.p", "a.r", "a.p"]])])
        two = [("exact", [(1, 0, "v")], ""), ("exact", [(1, 0, "v")], "")]
        self.assertIsNone(check_book([part(inner=["v"], laws=two)]))

    def test_order_of_errors(self):
        """A part with several faults, which are put right one after the other."""
        faults = [
            (BadName, 4, ("exact", [], "F")),
            (TooMany, 2, ["v", "w"] + [short(n) for n in range(11)]),
            (TakenName, 1, ["p", "p"]),
            (NoPart, 3, [("a", "coil"), ("b", "none")]),
            (NoName, 5, [["p", "a.none"]]),
            (OutOfRange, 4, ("exact", [(0, 0, "v")], "")),
            (SamePlace, 4, ("exact", [(1, 0, "v"), (1, 0, "v")], ""))]
        good = part("x", ["p"], ["v", "w"], [("a", "coil")], [], [["p", "a.p"]])
        for first in range(len(faults)):
            told = deepcopy(good)
            for _, at, fault in faults[first:]:
                if at == 4:
                    told[4].append(fault)
                else:
                    told[at][:] = fault
            self.raises(faults[first][0], [COIL, told])
            # The first part with an error counts.
            self.raises(faults[first][0], [COIL, told, part("A")], 1)
            self.raises(BadName, [COIL, part("A"), told], 1)
        self.assertIsNone(check_book([COIL, good]))

    def test_thirteenth_part(self):
        book = [part(short(n)) for n in range(12)]
        self.raises(TooMany, book + [part("n0")])
        self.raises(TooMany, book + [part("y", places=[("a", "none")])])
        self.raises(BadName, book + [part("Y")])


class TestNodes(unittest.TestCase):
    def nodes_of(self, joints, ports=("p", "q"), places=(("a", "coil"), ("b", "coil"))):
        book = [COIL, part("x", ports, places=places, joints=joints)]
        check_book(book)
        return fresh(self, nodes, book, "x")

    def test_alone(self):
        self.assertEqual(self.nodes_of([]), [["a.p"], ["a.r"], ["b.p"], ["b.r"]])
        self.assertEqual(self.nodes_of([], places=()), [])
        self.assertEqual(fresh(self, nodes, BOOK, "coil"), [])

    def test_joints(self):
        self.assertEqual(self.nodes_of([["p", "a.p"]]), [["p", "a.p"], ["a.r"], ["b.p"], ["b.r"]])
        self.assertEqual(self.nodes_of([["a.p", "p"], ["p", "a.p"]]), [["p", "a.p"], ["a.r"], ["b.p"], ["b.r"]])
        self.assertEqual(self.nodes_of([["q", "p"]]), [["p", "q"], ["a.p"], ["a.r"], ["b.p"], ["b.r"]])
        self.assertEqual(self.nodes_of([["b.r", "a.r", "q"]]), [["q", "a.r", "b.r"], ["a.p"], ["b.p"]])

    def test_chains_and_rings(self):
        told = [["q", "a.p", "a.r", "b.p"], ["b.r"]]
        self.assertEqual(self.nodes_of([["b.p", "a.r"], ["q", "a.p"], ["a.r", "a.p"]]), told)
        self.assertEqual(self.nodes_of([["a.r", "a.p"], ["b.p", "a.r"], ["a.p", "q"], ["q", "b.p"]]), told)
        self.assertEqual(self.nodes_of([["p", "b.r"], ["q", "a.p"], ["b.r", "q"]]),
                         [["p", "q", "a.p", "b.r"], ["a.r"], ["b.p"]])

    def test_by_closure(self):
        chance = random.Random(11)
        for _ in range(60):
            texts = ["p", "q", "a.p", "a.r", "b.p", "b.r"]
            joints = [chance.sample(texts, chance.randint(2, 3)) for _ in range(chance.randint(0, 4))]
            groups = [{text} for text in texts if "." in text or any(text in joint for joint in joints)]
            for joint in joints:
                met = [group for group in groups if group & set(joint)]
                groups = [group for group in groups if not group & set(joint)] + [set().union(*met)]
            told = sorted([sorted(group, key=texts.index) for group in groups], key=lambda row: texts.index(row[0]))
            self.assertEqual(self.nodes_of(joints), told)

    def test_no_part(self):
        fails(self, NoPart, 0, nodes, BOOK, "none")
        fails(self, NoPart, 0, nodes, [], "")


class TestFlatten(unittest.TestCase):
    def test_told_part(self):
        quantities = ["q.u", "q.i", "a.p.u", "a.p.i", "a.r.u", "a.r.i", "a.w",
                      "b.p.u", "b.p.i", "b.r.u", "b.r.i", "b.w"]
        laws = [
            ("exact", [(1, 0, 0), (-1, 0, 2)], ""), ("exact", [(-1, 0, 1), (1, 0, 3)], ""),
            ("exact", [(1, 0, 4), (-1, 0, 7)], ""), ("exact", [(1, 0, 5), (1, 0, 8)], ""),
            ("exact", [(1, 0, 10)], ""),
            ("sized", 1, 6, [("a.l", 0, 2), ("a.m", 0, 4)], "a.f"), ("exact", [(1, 0, 3), (1, 0, 5)], ""),
            ("exact", [(2, 0, 6), (-3, 1, 3)], "a.g"),
            ("sized", 1, 11, [("b.l", 0, 7), ("b.m", 0, 9)], "b.f"), ("exact", [(1, 0, 8), (1, 0, 10)], ""),
            ("exact", [(2, 0, 11), (-3, 1, 8)], "b.g")]
        self.assertEqual(fresh(self, flatten, BOOK, "net"), (quantities, laws))

    def test_alone(self):
        self.assertEqual(fresh(self, flatten, BOOK, "coil"), (
            ["p.u", "p.i", "r.u", "r.i", "w"],
            [("sized", 1, 4, [("l", 0, 0), ("m", 0, 2)], "f"), ("exact", [(1, 0, 1), (1, 0, 3)], ""),
             ("exact", [(2, 0, 4), (-3, 1, 1)], "g")]))
        self.assertEqual(fresh(self, flatten, [part()], "x"), ([], []))
        self.assertEqual(flatten([part(laws=[("exact", [], "f")])], "x"), ([], [("exact", [], "f")]))

    def test_own_ports_at_one_node(self):
        told = part("x", ["p", "q"], joints=[["q", "p"]])
        self.assertEqual(flatten([told], "x"), (["p.u", "p.i", "q.u", "q.i"], [
            ("exact", [(1, 0, 0), (-1, 0, 2)], ""), ("exact", [(-1, 0, 1), (-1, 0, 3)], "")]))

    def test_storeys(self):
        low = part("low", ["p"], ["v"], laws=[("sized", 0, "v", [("s", 0, "p.i")], "e")])
        mid = part("mid", [], ["m"], [("a", "low")], [("exact", [(7, 2, "m")], "")])
        top = part("top", ["o"], [], [("x", "mid"), ("y", "low")], [("exact", [(1, 0, "o.u")], "t")], [["o", "y.p"]])
        model = fresh(self, flatten, [low, mid, top], "top")
        self.assertEqual(model, (
            ["o.u", "o.i", "x.m", "x.a.p.u", "x.a.p.i", "x.a.v", "y.p.u", "y.p.i", "y.v"],
            [("exact", [(1, 0, 0)], "t"), ("exact", [(1, 0, 0), (-1, 0, 6)], ""), ("exact", [(-1, 0, 1), (1, 0, 7)], ""),
             ("exact", [(7, 2, 2)], ""), ("exact", [(1, 0, 4)], ""), ("sized", 0, 5, [("x.a.s", 0, 4)], "x.a.e"),
             ("sized", 0, 8, [("y.s", 0, 7)], "y.e")]))
        self.assertTrue(is_model(model))

    def test_twelve_storeys_of_long_names(self):
        book = [part("n" * 12, ["p" * 12], laws=[("exact", [(1, 0, "p" * 12 + ".u")], "f" * 12)])]
        for k in range(11):
            book.append(part(f"n{k}", [], [], [("a" * 12, book[-1][0])]))
        check_book(book)
        model = flatten(book, "n10")
        self.assertEqual(model[0][0], ("a" * 12 + ".") * 11 + "p" * 12 + ".u")
        self.assertTrue(is_model(model))

    def chain(self, storeys, places, inner=0, laws=0):
        book = [part("b0", [], [short(k) for k in range(inner)], laws=[("exact", [], "")] * laws)]
        for k in range(1, storeys):
            book.append(part(f"b{k}", places=[(f"a{n}", f"b{k - 1}") for n in range(places)]))
        return book

    def test_errors(self):
        fails(self, NoPart, 0, flatten, BOOK, "none")
        fails(self, NoPart, 0, flatten, [], "x")
        four = part("four", places=[(f"a{k}", "b0") for k in range(4)])
        forty = part("forty", places=[(f"a{k}", "b0") for k in range(4)] + [(f"b{k}", "four") for k in range(7)])
        dozen = part("dozen", places=[(f"a{k}", "b0") for k in range(12)])
        book = [part("b0"), four, forty, dozen]
        just = part("just", places=[(f"a{k}", "forty") for k in range(4)] + [(f"b{k}", "dozen") for k in range(3)])
        more = part("more", places=[(f"a{k}", "forty") for k in range(5)])
        self.assertEqual(flatten(book + [just], "just"), ([], []))
        fails(self, TooMany, 201, flatten, book + [more], "more")
        fails(self, TooMany, (12 ** 12 - 1) // 11, flatten, self.chain(12, 12), "b11")
        fails(self, TooMany, 1 + 12 + 144 + 1728, flatten, self.chain(4, 12, 12, 20), "b3")
        # The quantities come before the laws.
        fails(self, TooMany, 36, flatten, self.chain(2, 3, 12, 20), "b1")
        fails(self, TooMany, 60, flatten, self.chain(2, 3, 10, 20), "b1")
        self.assertEqual(len(flatten(self.chain(2, 2, 12, 20), "b1")[1]), 40)
        self.assertEqual(len(flatten(self.chain(2, 3, 10, 13), "b1")[0]), 30)
        book = self.chain(2, 2, 12, 20)
        book[1][4].append(("exact", [], ""))
        fails(self, TooMany, 41, flatten, book, "b1")
        book = self.chain(2, 3, 10, 13)
        book[1][2].append("v")
        fails(self, TooMany, 31, flatten, book, "b1")

    def test_is_model(self):
        chance = random.Random(12)
        for _ in range(40):
            low = part("low", ["p", "q"], ["v"], laws=[("sized", 1, "v", [("s", 0, "p.i"), ("p1", 0, "q.u")], "v")])
            texts = ["o", "a.p", "a.q", "b.p", "b.q"]
            joints = [chance.sample(texts, chance.randint(2, 4)) for _ in range(chance.randint(0, 4))]
            top = part("top", ["o"], ["s"], [("a", "low"), ("b", "low")], [("exact", [(1, 0, "o.i")], "a")], joints)
            check_book([low, top])
            model = fresh(self, flatten, [low, top], "top")
            self.assertTrue(is_model(model))
            # Each node of ports tells one less than its levels, and one sum of streams.
            texts = sum(len(node) for node in nodes([low, top], "top"))
            self.assertEqual(len(model[1]), 1 + texts + 2)


if __name__ == "__main__":
    unittest.main()
