import random
import unittest

from tests.helpers import made_up, small_models
from tests.slow_values import square_models
from unsaidsizes.begin.depth import index
from unsaidsizes.begin.relax import beginnings
from unsaidsizes.blocks.blocks import parts
from unsaidsizes.blocks.tied import loose
from unsaidsizes.errors import ModelError, NotFull
from unsaidsizes.marks.grids import grid_of
from unsaidsizes.models.model import sizes_of
from unsaidsizes.models.parts import flatten
from unsaidsizes.models.texts import law_text, read_book, read_law
from unsaidsizes.pairing.corners import pairing
from unsaidsizes.pairing.instead import substitute
from unsaidsizes.ranks.assign import rank
from unsaidsizes.steer.factor import exact_factor
from unsaidsizes.steer.steering import unsteered
from unsaidsizes.steer.watching import unwatched
from unsaidsizes.store.desk import Desk
from unsaidsizes.store.store import Store
from unsaidsizes.values.groups import groups
from unsaidsizes.values.sure import is_sure

BOOK = """part spring
port p
inner x
size p.i = k*x
law 1*x' - 1*p.u = 0
end
part pair
place a spring
place b spring
join a.p b.p
end
part lone
inner y
size y' = r*y + f
end
part none
end
"""


def written(desk, text):
    for line in text.splitlines():
        assert desk.do("+ " + line) == "ok"
    return desk


def opened(name, text=BOOK):
    desk = written(Desk(), text)
    desk.do("open " + name)
    return desk


def state(desk):
    store = desk.store()
    return desk.draft(), store and (store.model(), store.promises(), store.edits())


def with_laws(text):
    """A desk with a model of a part with these inner quantities and laws."""
    return opened("m", "part m\n" + text + "end\n")


def written_model(model):
    """The text of a part with a model whose names have no dots."""
    names = [f"inner {name}\n" for name in model[0]]
    lines = []
    for told in model[1]:
        if told[0] == "exact":
            law = ("exact", [(c, k, model[0][j]) for c, k, j in told[1]], told[2])
        else:
            law = ("sized", told[1], model[0][told[2]], [(size, k, model[0][j]) for size, k, j in told[3]], told[4])
        lines.append(law_text(law) + "\n")
    return "".join(names + lines)


class TestDesk(unittest.TestCase):
    def answers(self, desk, *pairs):
        for line, told in pairs:
            self.assertEqual(desk.do(line), told, line)

    def stays(self, desk, *pairs):
        """As `answers`, for lines that change nothing."""
        for line, told in pairs:
            before = state(desk)
            self.assertEqual(desk.do(line), told, line)
            self.assertEqual(state(desk), before, line)

    def test_session(self):
        desk = written(Desk(), BOOK)
        self.assertEqual(state(desk), (BOOK.splitlines(), None))
        self.answers(
            desk, ("open pair", "6 quantities, 6 laws"), ("laws", "6"), ("law 0", "law 1*a.p.u - 1*b.p.u = 0"), ("law 2", "size a.p.i = a.k*a.x"),
            ("law 3", "law 1*a.x' - 1*a.p.u = 0"), ("loose", "none"), ("blocks", "a.p.i a.x b.p.i b.x | a.p.u | b.p.u"), ("begins", "1"),
            ("index", "2"), ("unsteered", "1"), ("unwatched", "1"), ("unwatched a.x", "0"), ("unwatched b.p.u a.x", "0"), ("factor", "0 1"), ("groups", "a.k b.k"),
            ("sure 0", "yes"), ("pairs", "0 b.p.u | 1 b.p.i | 2 a.x | 3 a.p.i | 4 b.x | 5 a.p.u"), ("instead 0", "a.p.u"),
            ("promise whole", "ok"), ("promise begins 1", "ok"), ("promise begins 2", "refused 2"), ("drop 0", "refused 0"), ("free 0", "ok"), ("drop 0", "refused 0"),
            ("free 0", "ok"), ("drop 0", "ok"), ("laws", "5"), ("loose", "a.p.u a.p.i a.x b.p.u b.p.i b.x"), ("blocks", "not whole"), ("begins", "not whole"),
            ("index", "not whole"), ("factor", "NotSquare 5"), ("unsteered", "0"), ("back", "ok"), ("laws", "6"), ("back", "NothingToUndo 0"))
        self.assertEqual(state(desk)[1], (flatten(read_book(BOOK), "pair"), [], []))

    def test_lines_that_are_none(self):
        for desk in (Desk(), opened("pair")):
            self.stays(desk, *[(line, "?") for line in (
                "", " ", "  ", "+", "+ ", " + x", "++ x", "clear ", " clear", "clear x", "Clear", "open", "open ", "open pair ", "open  pair", "open Pair", "open pair x",
                "open 1", "open a.", "open " + "a" * 201, "add", "add ", "put", "put ", "put 0", "put 0 ", "put x law 0 = 0", "put -1 law 0 = 0", "put 00 law 0 = 0",
                "put 01 law 0 = 0", "put 1234567890 law 0 = 0", "put  0 law 0 = 0", "drop", "drop ", "drop x", "drop -1", "drop 00", "drop 01", "drop 0 0", "drop  0",
                "drop 1234567890", "drop 0 ", "drop 1.0", "drop +1", "quantity", "quantity ", "quantity A", "quantity a b", "quantity a.", "quantity  a", "leave", "leave A",
                "leave a b", "say", "say a.k", "say a.k 1", "say a.k 1 0", "say a.k 1 00", "say a.k 1 01", "say a.k 01 1", "say a.k -01 1", "say a.k 00 1",
                "say a.k 1 1001", "say a.k 1001 1", "say a.k -1001 1", "say a.k 0 0", "say a.k -0 0", "say a.k 2 0", "say a.k 0 1001", "say a.k 2 2000",
                "say a.k 2000 2", "say a.k -2000 2", "say a.k 1 -0", "say a.k 1 -1", "say a.k 0 -1", "say a.k --1 1", "say a.k --0 1", "say a.k - 1", "say a.k +1 1",
                "say A 1 1", "say a.k 1 2 3", "say a.k 1 2 ", "say a.k  1 2", "say a.k 1000 1234567890", "say 1 2 a.k", "back ", "back 1", "promise", "promise ",
                "promise tied", "promise tied A", "promise tied a b", "promise whole x", "promise whole ", "promise begins", "promise begins -1", "promise begins 00",
                "promise begins x", "promise begins 1234567890", "promise index", "promise index 1 1", "promise ahead a", "promise ahead a b c", "promise ahead", "promise apart a",
                "promise apart a B", "promise steered x", "promise watched", "promise watched a", "promise watched -1 a", "promise watched 0 a a", "promise watched 0 A",
                "promise watched 0 ", "promise watched 0 a  b", "promise sure 0", "promise loose a", "promise  whole", "Promise whole", "free", "free x", "free -1", "free 00",
                "free 0 0", "loose ", "loose x", "blocks x", "begins 1", "index ", "laws x", "law", "law x", "law -1", "law 00", "law 1 1", "law 1234567890", "unsteered x",
                "unwatched ", "unwatched A", "unwatched a a", "unwatched a  b", "unwatched a b a", "unwatched 1", "factor x", "factor ", "groups x", "sure", "sure x", "sure 00",
                "sure 0 0", "pairs x", "instead", "instead x", "instead -1", "instead 00", "model", "x", "promises", "whole", "+x", "law0", "~")])

    def test_numbers_and_names_that_are_right(self):
        self.stays(opened("pair"), *[(line, told) for line, told in (
            ("drop 999999999", "NoLaw 999999999"), ("law 6", "NoLaw 6"), ("law 999999999", "NoLaw 999999999"), ("free 0", "NoPromise 0"), ("free 999999999", "NoPromise 999999999"),
            ("sure 1", "OutOfRange 1"), ("sure 999999999", "OutOfRange 999999999"), ("instead 6", "NoLaw 6"), ("promise begins 999999999", "refused 0"),
            ("promise tied x.y.z", "refused 0"), ("promise watched 1 x", "refused 0"), ("leave " + "a" * 200, "NoQuantity 0"), ("unwatched zz", "NoName 0"),
            ("unwatched a.x zz", "NoName 0"), ("unwatched f", "NoName 0"), ("quantity a.x", "NotModel 0"), ("quantity a.k", "NotModel 0"), ("say zz 1 1", "NoSize 0"),
            ("say zz 2 4", "NoSize 0"), ("say a.x 1 1", "NoSize 0"), ("put 6 law 0 = 0", "NoLaw 6"), ("leave a.x", "Needed 2"), ("open zz", "NoPart 0"), ("open a.b", "NoPart 0"))])
        self.answers(opened("pair"), ("say a.k -0 1", "ok"), ("back", "ok"), ("say a.k 0 1", "ok"), ("back", "ok"), ("say a.k -1000 999", "ok"), ("back", "ok"),
                     ("say a.k 1 1000", "ok"), ("say b.k 1000 1", "ok"), ("groups", "none"))

    def test_no_store(self):
        desk = written(Desk(), BOOK)
        for line in ("add law 0 = 0", "add x", "put 0 x", "drop 0", "quantity a", "leave a", "say a 1 2", "back", "promise whole", "promise watched 0 a b", "free 0", "loose",
                     "blocks", "begins", "index", "laws", "law 0", "unsteered", "unwatched", "unwatched a", "factor", "groups", "sure 0", "pairs", "instead 0"):
            self.stays(desk, (line, "no store"))
        self.stays(desk, ("drop x", "?"), ("open zz", "NoPart 0"), ("loose", "no store"))
        self.answers(desk, ("clear", "ok"), ("loose", "no store"))
        self.assertEqual(state(desk), ([], None))
        self.assertIsNone(desk.store())

    def test_draft(self):
        desk = Desk()
        lines = [" x", "x ", "  ", "+ +", "y  z", "~!@#", "clear", "?"]
        for line in lines:
            self.answers(desk, ("+ " + line, "ok"))
        self.assertEqual(desk.draft(), lines)
        self.answers(desk, *[(f"+ {k}", "ok") for k in range(192)])
        self.assertEqual(len(desk.draft()), 200)
        self.stays(desk, ("+ more", "TooMany 200"), ("+  ", "TooMany 200"), ("+ ", "?"), ("+", "?"))
        self.answers(desk, ("clear", "ok"), ("+ x", "ok"))
        self.assertEqual(desk.draft(), ["x"])

    def test_open(self):
        for text, told in (
                ("part a\nend", "NoPart 0"), ("x", "BadLine 0"), ("part m\nx", "BadLine 1"), ("part m\ninner a", "BadLine 2"), ("part m\nend ", "BadLine 1"),
                ("part m\ninner a\ninner a\nend", "TakenName 2"), ("part m\nplace a b\nend", "NoPart 1"), ("part m\nlaw 1*a = 0\nend", "NoName 1"),
                ("part m\ninner a\nlaw 0*a = 0\nend", "OutOfRange 2"), ("part m\ninner a\nlaw 1*a + 1*a = 0\nend", "SamePlace 2"),
                ("\n".join(f"part p{k}\nend" for k in range(13)), "TooMany 24"), ("part m\n" + "\n".join(f"inner a{k}" for k in range(13)) + "\nend", "TooMany 13"),
                # Flattening: the quantities, the laws, the count.
                ("part l\n" + "\n".join(f"inner a{k}" for k in range(12)) + "\nend\npart m\nplace x l\nplace y l\nplace z l\nend", "TooMany 36"),
                ("part l\n" + "\n".join("law 0 = f" for _ in range(20)) + "\nend\npart m\nplace x l\nplace y l\nplace z l\nend", "TooMany 60"),
                ("part l\nend\n" + "\n".join(f"part {own}\n" + "\n".join(f"place x{k} {other}" for k in range(6)) + "\nend" for own, other in (
                    ("n", "l"), ("o", "n"), ("m", "o"))), "TooMany 259"),
                # The store: degrees.
                ("part m\ninner a\n" + "\n".join("law 1*a''' = 0" for _ in range(5)) + "\nend", "TooLarge 15")):
            for desk in (Desk(), opened("pair")):
                self.answers(desk, ("clear", "ok"))
                written(desk, text)
                self.stays(desk, ("open m", told))
        desk = opened("pair")
        self.answers(desk, ("drop 0", "ok"), ("promise tied zz", "refused 0"), ("promise watched 0", "refused 0"))
        self.answers(desk, ("open lone", "1 quantities, 1 laws"), ("back", "NothingToUndo 0"), ("law 0", "size y' = r*y + f"), ("open none", "0 quantities, 0 laws"))
        self.assertEqual(desk.draft(), BOOK.splitlines())
        self.answers(Desk(), ("open m", "NoPart 0"))

    def test_laws(self):
        desk = opened("lone")
        self.stays(desk, *[(f"{start} {text}", told) for start in ("add", "put 0", "put 9") for text, told in (
            ("x", "BadLine 0"), (" law 0 = 0", "BadLine 0"), ("law 0 = 0 ", "BadLine 0"), ("law 1*y + 2*Y = 0", "BadLine 0"), ("law 01*y = 0", "BadLine 0"),
            ("size y = f", "BadLine 0"), ("size y = s*y' + s*y''", "TakenName 0"), ("law 0*y = 0", "OutOfRange 0"), ("law 1*y'''' = 0", "OutOfRange 0"),
            ("law 1*y + 1*y = 0", "SamePlace 0"), ("size y = s*y", "SamePlace 0"), ("law 1*x = 0", "NoName 0"), ("size x = s*y", "NoName 0"),
            ("size y = s*x", "NoName 0"), ("law 1*r = 0", "NoName 0"), ("law 1*f = 0", "NoName 0"), ("law 1*y.z = 0", "NoName 0"),
            ("law 1*z + 1*z = 0", "SamePlace 0"), ("law 0*z = 0", "OutOfRange 0"))])
        self.stays(desk, ("put 9 law 0 = 0", "NoLaw 9"), ("put 1 size y = r*y'", "NoLaw 1"), ("add size y = r*y'", "NotModel 0"), ("add size y = y*y'", "NotModel 0"))
        self.answers(desk, ("put 0 size y = r*y'", "ok"), ("law 0", "size y = r*y'"), ("add law 3*y - 2*y' = g.h", "ok"), ("law 1", "law 3*y - 2*y' = g.h"),
                     ("add law 0 = 0", "ok"), ("law 2", "law 0 = 0"), ("laws", "3"), ("quantity z.w", "ok"), ("add size z.w''' = s.t*y + u", "ok"),
                     ("law 3", "size z.w''' = s.t*y + u"), ("leave z.w", "Needed 3"), ("drop 3", "ok"), ("leave z.w", "ok"))
        self.assertEqual(desk.store().model(), (["y"], [("sized", 0, 0, [("r", 1, 0)], ""), ("exact", [(3, 0, 0), (-2, 1, 0)], "g.h"), ("exact", [], "")]))
        self.answers(desk, *[("add law 1*y''' = 0", "ok") for _ in range(3)])
        self.stays(desk, ("add law 1*y''' = 0", "TooLarge 13"), ("put 2 law 1*y''' = 0", "TooLarge 13"))

    def test_say(self):
        desk = with_laws("inner x\ninner y\nsize x' = r*x + s*y + f\nsize y = t*x\n")
        self.answers(desk, ("say t -3 4", "ok"), ("law 1", "law 4*y + 3*x = 0"), ("say r 1 2", "ok"), ("law 0", "law 2*x' - 1*x - 2*said0 = 0"),
                     ("law 2", "size said0 = s*y + f"), ("say r 1 2", "NoSize 0"), ("back", "ok"), ("back", "ok"), ("back", "NothingToUndo 0"))
        self.assertEqual(desk.do("say s -0 1"), "ok")
        self.assertEqual(desk.store().edits(), [("say", {"s": (0, 1)})])

    def test_say_words_with_a_common_divisor(self):
        desk = with_laws("inner x\ninner v\nlaw 1*x' - 1*v = 0\nsize v' = s*x + r*v + push\n")
        for words, told in (("-0 3", (0, 1)), ("0 2", (0, 1)), ("0 1000", (0, 1)), ("-0 1000", (0, 1)), ("0 1", (0, 1)), ("-0 1", (0, 1)), ("-4 6", (-2, 3)), ("-2 3", (-2, 3)),
                            ("2 4", (1, 2)), ("6 3", (2, 1)), ("7 7", (1, 1)), ("1000 1000", (1, 1)), ("-1000 1000", (-1, 1)), ("-1000 10", (-100, 1)), ("998 1000", (499, 500)),
                            ("999 1000", (999, 1000)), ("1000 999", (1000, 999)), ("1000 1", (1000, 1)), ("1 1000", (1, 1000))):
            store = desk.store()
            store.edit(("say", {"s": told}))
            self.answers(desk, ("say s " + words, "ok"))
            self.assertEqual((desk.store().model(), desk.store().edits()), (store.model(), [("say", {"s": told})]), words)
            self.answers(desk, ("back", "ok"))
        self.answers(desk, ("say s -4 6", "ok"), ("law 1", "law 3*v' + 2*x - 3*said1 = 0"), ("say r 0 5", "ok"), ("law 2", "law 1*said1 - 1*said2 = 0"))

    def test_say_is_tried_in_order(self):
        self.stays(Desk(), ("say s 2 4", "no store"), ("say s 2 0", "?"))
        desk = with_laws("inner x\ninner y\nlaw 1*x - 1*y = 0\nsize y = u*x\n")
        self.answers(desk, ("promise whole", "ok"))
        self.stays(desk, ("say s 2 4", "NoSize 0"), ("say u 1 1", "refused 0"), ("say u 5 5", "refused 0"))
        self.answers(desk, ("say u -5 5", "ok"), ("law 1", "law 1*y + 1*x = 0"))

    def test_promises(self):
        desk = with_laws("inner x\ninner y\ninner z\nsize x' = r*x + f\nsize y = s*x\nsize z' = t*z\n")
        lines = ["tied x", "whole", "begins 2", "index 1", "ahead x y", "apart x z", "watched 1 x", "watched 0 z y", "watched 2"]
        self.answers(desk, *[("promise " + line, "ok") for line in lines])
        self.assertEqual(desk.store().promises(), [
            ("tied", "x"), ("whole",), ("begins", 2), ("index", 1), ("ahead", "x", "y"), ("apart", "x", "z"), ("watched", ["x"], 1),
            ("watched", ["z", "y"], 0), ("watched", [], 2)])
        self.stays(desk, ("promise steered", "refused 9"), ("promise begins 1", "refused 9"), ("promise watched 0", "refused 9"), ("promise tied w", "refused 9"),
                   ("drop 0", "refused 0"), ("drop 2", "refused 1"), ("quantity w", "refused 1"), ("put 2 size z'' = t*z", "refused 2"), ("drop 9", "NoLaw 9"))
        self.answers(desk, ("promise sure", "ok"), *[("promise whole", "ok")] * 10)
        self.stays(desk, ("promise whole", "TooMany 20"), ("promise begins 9", "TooMany 20"), ("free 20", "NoPromise 20"))
        self.answers(desk, ("free 19", "ok"), ("free 0", "ok"), ("promise apart z y", "ok"))
        self.assertEqual(desk.store().promises()[0], ("whole",))
        desk = with_laws("inner x\ninner u\nsize x' = r*u\n")
        self.answers(desk, ("promise steered", "ok"), ("put 0 size x' = r*u'", "refused 0"), ("promise whole", "refused 1"), ("unsteered", "0"))

    def test_back_is_refused(self):
        desk = with_laws("inner x\n")
        self.answers(desk, ("add law 1*x' = 0", "ok"), ("promise whole", "ok"), ("back", "refused 0"), ("free 0", "ok"), ("back", "ok"), ("back", "NothingToUndo 0"))

    def test_empty_and_not_whole(self):
        self.stays(opened("none"), ("loose", "none"), ("blocks", "none"), ("begins", "0"), ("index", "0"), ("laws", "0"), ("law 0", "NoLaw 0"), ("unsteered", "0"),
                   ("unwatched", "0"), ("factor", "1"), ("groups", "none"), ("sure 0", "OutOfRange 0"), ("pairs", "none"), ("instead 0", "NoLaw 0"))
        self.stays(with_laws("inner x\n"), ("loose", "x"), ("blocks", "not whole"), ("begins", "not whole"), ("index", "not whole"), ("unsteered", "0"), ("unwatched", "none"),
                   ("unwatched x", "0"), ("factor", "NotSquare 0"), ("groups", "NotSquare 0"), ("sure 0", "NotSquare 0"), ("pairs", "none"), ("instead 0", "NoLaw 0"))
        self.stays(with_laws("inner x\nlaw 0 = f\n"), ("loose", "x"), ("blocks", "not whole"), ("begins", "not whole"), ("index", "not whole"), ("unsteered", "NotFull 0"),
                   ("unwatched", "none"), ("unwatched x", "0"), ("factor", "not whole"), ("groups", "NotFull 0"), ("sure 0", "NotFull 0"), ("pairs", "none"), ("instead 0", "none"))
        self.stays(with_laws("law 0 = f\n"), ("loose", "none"), ("blocks", "not whole"), ("begins", "not whole"), ("unsteered", "NotFull 0"), ("unwatched", "0"),
                   ("factor", "NotSquare 1"), ("pairs", "none"), ("instead 0", "none"))

    def test_large_models(self):
        for n in (8, 9, 16, 17):
            half = [f"inner a{k}\n" for k in range(n // 2)], [f"size a{k} = s{k}*a{(k + 1) % (n // 2)}\n" for k in range(n // 2)]
            rest = n - n // 2
            other = [f"inner a{k}\n" for k in range(rest)], [f"size a{k} = s{k}*a{(k + 1) % rest}\n" for k in range(rest)]
            desk = opened("m", "part h\n" + "".join(half[0] + half[1]) + "end\npart k\n" + "".join(other[0] + other[1]) + "end\npart m\nplace x h\nplace y k\nend\n")
            self.stays(desk, ("laws", str(n)), ("begins", "0" if n <= 16 else "TooLarge 17"), ("index", "1" if n <= 8 else f"TooLarge {n}"),
                       ("unsteered", "0" if n <= 16 else "TooLarge 17"), ("unwatched", "0" if n <= 8 else f"TooLarge {n}"), ("unwatched zz", "NoName 0"),
                       ("factor", "1" if n <= 16 else "TooLarge 17"), ("sure 9", "OutOfRange 9" if n <= 16 else "TooLarge 17"))
            self.assertEqual(desk.do("blocks").count("|"), 1)
            self.assertEqual(desk.do("groups").count("|"), 1 if n <= 16 else 0)
        desk = opened("m", "part k\n" + "".join(other[0] + other[1]) + "end\npart m\nplace x k\nend\n")
        self.stays(desk, ("sure 0", "TooMany 9"), ("groups", " ".join(f"x.s{k}" for k in range(9))))

    def test_compared(self):
        """Each answer, compared with what the functions tell."""
        chance = random.Random(806)
        models = small_models(60) + square_models(60, 807) + [made_up(seed, 9, 9, 0.5, 2, 3, 6) for seed in range(8)]
        for model in models:
            if len(model[0]) > 12 or sum(max([0] + [k for _, k, _ in one[1]]) for one in model[1] if one[0] == "exact") > 12:
                continue
            model = (model[0], [one[:-1] + (one[-1].replace(".", ""),) for one in model[1]])
            desk = with_laws(written_model(model))
            self.assertEqual(desk.store().model(), model)
            names, sizes, laws = model[0], sizes_of(model), len(model[1])
            whole = rank(model) == laws == len(names)

            def told(action):
                try:
                    return action()
                except ModelError as error:
                    return f"{type(error).__name__} {error.at}"

            def named(numbers, own):
                return " ".join(own[k] for k in numbers)
            seen = sorted(chance.sample(range(len(names)), chance.randint(0, len(names))))
            shuffled = chance.sample(seen, len(seen))
            self.stays(
                desk, ("loose", named(loose(model), names) or "none"), ("laws", str(laws)),
                ("blocks", (" | ".join(named(block, names) for block in parts(model)[1]) or "none") if whole else "not whole"),
                ("begins", str(beginnings(grid_of(model))) if whole else "not whole"),
                ("index", told(lambda: str(index(grid_of(model)))) if whole else "not whole"),
                ("unsteered", told(lambda: str(unsteered(model)))),
                (" ".join(["unwatched"] + [names[j] for j in shuffled]), told(lambda: str(unwatched(model, seen)).replace("None", "none"))),
                ("factor", told(lambda: "not whole" if exact_factor(grid_of(model)) is None else " ".join(map(str, exact_factor(grid_of(model)))))),
                ("groups", told(lambda: " | ".join(named(one, sizes) for one in groups(model)) or "none")),
                ("pairs", " | ".join(f"{i} {names[j]}" for i, j in pairing(model, list(range(laws)), [])) or "none"))
            for k in range(laws + 1):
                self.stays(desk, (f"sure {k}", told(lambda: "yes" if is_sure(model, k) else "no")),
                           (f"instead {k}", told(lambda: "none" if substitute(model, [], k) is None else names[substitute(model, [], k)])))
                if k < laws:
                    self.assertEqual(law_text(read_law(desk.do(f"law {k}"))), desk.do(f"law {k}"))

    def test_not_full_factor(self):
        desk = with_laws("inner x\ninner y\nlaw 1*x + 1*y = 0\nlaw 2*x + 2*y = 0\n")
        self.stays(desk, ("factor", "not whole"), ("groups", "NotFull 1"), ("unsteered", "NotFull 1"))
        with self.assertRaises(NotFull):
            groups(desk.store().model())

    def test_copies(self):
        desk = opened("pair")
        desk.do("promise whole")
        other = desk.copy()
        self.assertEqual(state(other), state(desk))
        before = state(desk)
        for line in ("clear", "free 0", "drop 0", "+ x"):
            other.do(line)
        self.assertEqual(state(desk), before)
        self.assertEqual(other.draft(), ["x"])
        store = desk.store()
        self.assertIsInstance(store, Store)
        store.free(0)
        store.edit(("drop", 0))
        desk.draft().append("x")
        self.assertEqual(state(desk), before)
        self.assertEqual(state(Desk().copy()), ([], None))
        desk.do("open none")
        self.assertEqual(len(other.store().model()[1]), 5)

    def test_any_lines(self):
        # A desk answers one line to each line, and raises nothing.
        chance = random.Random(808)
        words = ("+ clear open add put drop quantity leave say back promise free loose blocks begins index laws law unsteered unwatched factor groups sure pairs instead "
                 "tied whole ahead apart steered watched sure a.x b.x a.k b.k x 0 1 2 3 -1 1*a.x = size law 0 end part pair").split() + [""]
        desk = opened("pair")
        for _ in range(4000):
            line = " ".join(chance.choice(words) for _ in range(chance.randint(0, 5)))
            told = desk.do(line)
            self.assertIsInstance(told, str)
            self.assertNotIn("\n", told)
            self.assertTrue(told)


if __name__ == "__main__":
    unittest.main()
