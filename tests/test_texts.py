import random
import unittest

from tests.helpers import fails, fresh
from unsaidsizes.errors import BadLine, NoName, NoPart, OutOfRange, SamePlace, TakenName, TooMany
from unsaidsizes.models.parts import check_book
from unsaidsizes.models.texts import law_text, read_book, read_law, write_book

TEXT = """part coil
port p
port r
inner w
inner x
size w' = l*p.u + m*r.u'' + f
size x''' = n*x
law 0 = 0
law 0 = f
law -2*w + 1000000*x' - 3*p.u''' = g
law 7*w = 0
end
part none
end
part net
port q
place a coil
place b coil
join q a.p
join a.r b.p q
end
"""

BOOK = [
    ("coil", ["p", "r"], ["w", "x"], [], [
        ("sized", 1, "w", [("l", 0, "p.u"), ("m", 2, "r.u")], "f"), ("sized", 3, "x", [("n", 0, "x")], ""),
        ("exact", [], ""), ("exact", [], "f"),
        ("exact", [(-2, 0, "w"), (1000000, 1, "x"), (-3, 3, "p.u")], "g"), ("exact", [(7, 0, "w")], "")], []),
    ("none", [], [], [], [], []),
    ("net", ["q"], [], [("a", "coil"), ("b", "coil")], [], [["q", "a.p"], ["a.r", "b.p", "q"]])]

LAWS = [
    ("law 2*x' - 3*p.u = f", ("exact", [(2, 1, "x"), (-3, 0, "p.u")], "f")),
    ("law 0 = 0", ("exact", [], "")),
    ("law 0 = f", ("exact", [], "f")),
    ("law -2*x = 0", ("exact", [(-2, 0, "x")], "")),
    ("law 1000000*x + 1*y''' - 1000000*x''' = a.b", (
        "exact", [(1000000, 0, "x"), (1, 3, "y"), (-1000000, 3, "x")], "a.b")),
    ("size x'' = s*y + r*p.i' + f", ("sized", 2, "x", [("s", 0, "y"), ("r", 1, "p.i")], "f")),
    ("size x = s*y", ("sized", 0, "x", [("s", 0, "y")], "")),
    ("size a.b.c''' = x.y*a.b.c'' + a", ("sized", 3, "a.b.c", [("x.y", 2, "a.b.c")], "a")),
    ("size x = x*y + x", ("sized", 0, "x", [("x", 0, "y")], "x"))]

BAD_LAWS = [
    "", " ", "law", "size", "law ", "law 0", "law 0 =", "law 0 = ", "law = 0", "law  0 = 0", "law 0  = 0",
    " law 0 = 0", "law 0 = 0 ", "law 0 = 0\n", "law 0 = 00", "law 00 = 0", "law -0 = 0", "law + 0 = 0",
    "law 0 == 0", "law 0 = 1", "law 0 = F", "law 0 = f'", "law 0 = f.", "law 0 = a..b", "law 0 = f g", "law 0 = -f",
    "law x = 0", "law *x = 0", "law 2* = 0", "law 2x = 0", "law 2*X = 0", "law 02*x = 0", "law 2*2*x = 0",
    "law +2*x = 0", "law - 2*x = 0", "law --2*x = 0", "law 2 * x = 0", "law 2*x + -3*y = 0", "law 2*x - -3*y = 0",
    "law 2*x +3*y = 0", "law 2*x 3*y = 0", "law 2*x + = 0", "law 2*x + 0 = 0", "law 0 + 2*x = 0", "law 2*x * 3*y = 0",
    "law 2*x'y = 0", "law 2*'x = 0", "law 2*x\" = 0", "law 2*x. = 0", "law 2*.x = 0", "law a*x = 0", "law 2.0*x = 0",
    "law 2*x = 0 = 0", "law 2*x = 3*y", "Law 0 = 0", "laws 0 = 0", "law 2*x=0", "law 2*" + "x" * 201 + " = 0",
    "law 0 = " + "f" * 201,
    "size x =", "size x = ", "size x = f", "size x = 0", "size x = s*y + 0", "size x = s*y + ", "size x = s*y +",
    "size x = f + s*y", "size x = s*y + f + g", "size x = s*y + f + r*z", "size x = s*y - r*z", "size x = -s*y",
    "size x = 2*y", "size x = S*y", "size x = s*Y", "size x = s*", "size x = *y", "size x = s*y*z", "size X = s*y",
    "size x'y = s*y", "size x s*y", "size x = s*y r*z", "size = s*y", "size 1*x = s*y", "size  x = s*y",
    "size x = s'*y", "size x = s.*y", "size x = s*y + f'", "size x = s*y\n", "size x = " + "s" * 201 + "*y",
    "size x + s*y", "size x == s*y", "size x s*y =", "part a", "end", "join a b"]


class TestLaws(unittest.TestCase):
    def test_both_ways(self):
        for line, told in LAWS:
            self.assertEqual(fresh(self, law_text, told), line)
            self.assertEqual(fresh(self, read_law, line), told)

    def test_long_names(self):
        long = "a." * 99 + "bc"
        line = f"size {long} = {long}*{long}' + {long}"
        self.assertEqual(law_text(read_law(line)), line)
        line = f"law 1*{long}' = {long}"
        self.assertEqual(law_text(read_law(line)), line)

    def test_bad_lines(self):
        for line in BAD_LAWS:
            fails(self, BadLine, 0, read_law, line)

    def test_taken(self):
        for line in ("size x = s*y + s*z", "size x = s*y + r*z + s*v + f", "size x'''' = s*x'''' + s*x''''"):
            fails(self, TakenName, 0, read_law, line)

    def test_out_of_range(self):
        for line in ("law 0*x = 0", "law -0*x = 0", "law 1*x + 0*y = 0", "law 1*x - 0*y = 0", "law 1000001*x = 0",
                     "law -1000001*x = 0", "law 10000000*x = 0", "law 1" + "0" * 9000 + "*x = 0", "law 1*x'''' = 0",
                     "law 1*x" + "'" * 9000 + " = 0", "size x'''' = s*y", "size x = s*y''''", "law 0*x + 1*y + 2*y = 0"):
            fails(self, OutOfRange, 0, read_law, line)

    def test_same_place(self):
        for line in ("law 1*x + 1*x = 0", "law 1*x' - 2*y + 3*x' = f", "size x = s*x", "size x = s*y + r*y",
                     "size x'' = s*y + r*x''"):
            fails(self, SamePlace, 0, read_law, line)

    def test_order_of_errors(self):
        fails(self, BadLine, 0, read_law, "size x'''' = s*x'''' + s*x'''' + ")
        fails(self, TakenName, 0, read_law, "size x'''' = s*x'''' + s*x''''")
        fails(self, OutOfRange, 0, read_law, "size x'''' = s*x'''' + r*x''''")
        fails(self, SamePlace, 0, read_law, "size x''' = s*x''' + r*x'''")
        fails(self, BadLine, 0, read_law, "law 0*x + 0*x = F")
        fails(self, OutOfRange, 0, read_law, "law 0*x + 0*x = f")

    def test_made_up(self):
        chance = random.Random(13)
        names = ["x", "y", "p.u", "p.i", "a.b.c", "z9"]
        for _ in range(100):
            places = chance.sample([(k, j) for k in range(4) for j in names], chance.randint(1, 6))
            source = chance.choice(["", "f", "g.h"])
            numbers = [chance.choice([-1, 1]) * chance.randint(1, 1000000) for _ in places]
            told = ("exact", [(number, k, j) for number, (k, j) in zip(numbers, places)], source)
            self.assertEqual(read_law(law_text(told)), told)
            if len(places) > 1:
                terms = [(f"s{n}", k, j) for n, (k, j) in enumerate(places[1:])]
                told = ("sized", places[0][0], places[0][1], terms, source)
                self.assertEqual(read_law(law_text(told)), told)


class TestBooks(unittest.TestCase):
    def raises(self, error, at, text):
        fails(self, error, at, read_book, text)

    def test_both_ways(self):
        self.assertEqual(fresh(self, read_book, TEXT), BOOK)
        self.assertEqual(fresh(self, write_book, BOOK), TEXT)
        self.assertIsNone(check_book(BOOK))

    def test_nothing(self):
        self.assertEqual(fresh(self, read_book, ""), [])
        self.assertEqual(write_book([]), "")
        self.assertEqual(read_book("part x\nend\n"), [("x", [], [], [], [], [])])

    def test_faults_of_one_line(self):
        """Each line of the text is replaced by one with a fault; what stands before it is right."""
        lines = TEXT.split("\n")[:-1]
        for at in range(len(lines)):
            for wrong in ("", " ", "x", "ports p", "part", "port", "end ", " end", "law 0 = 0 0", "join a", "place a",
                          "port p q", "port P", "inner a.b", "port abcdefghijklm", "part a b", "place a coil b",
                          "place A coil", "place a Coil", "place a.b coil", "join P q", "join q P", "join .p q"):
                self.raises(BadLine, at, "\n".join(lines[:at] + [wrong] + lines[at + 1:]) + "\n")
        for at in range(1, len(lines)):
            # Without a newline behind the last line, whatever it says.
            self.raises(BadLine, at, "\n".join(lines[:at]) + "\n" + lines[at])
            self.raises(BadLine, at, "\n".join(lines[:at]) + "\n" + "port p")

    def test_without_an_end(self):
        for text in ("part x\n", "part x\nport p\n", "part x\nend\npart y\nport p\nlaw 0 = 0\n"):
            self.raises(BadLine, text.count("\n"), text)
        self.raises(TakenName, 2, "part x\nport p\nport p\n")

    def test_places_of_lines(self):
        first = ["part x", "port p", "inner v", "place a y", "law 0 = 0", "join p a.q", "end"]
        start = "part y\nport q\nend\n"
        stage = {"part": 0, "port": 1, "inner": 2, "place": 3, "law": 4, "size": 4, "join": 5, "end": 6}
        others = ["part z", "port r", "inner w", "place b y", "law 1*v = 0", "size v = s*p.u", "join p a.q"]
        self.assertEqual(len(read_book(start + "\n".join(first) + "\n")), 2)
        for at in range(len(first)):
            for other in others:
                text = start + "\n".join(first[:at + 1] + [other]) + "\n"
                ahead, behind = stage[first[at].split()[0]], stage[other.split()[0]]
                if ahead == 6:
                    right = behind == 0
                else:
                    right = behind >= max(ahead, 1)
                if not right:
                    self.raises(BadLine, 3 + at + 1, text)
                elif ahead == 0 and behind == 4:
                    self.raises(NoName, 3 + at + 1, text)
                elif right and behind == 0:
                    self.raises(BadLine, text.count("\n"), text)
        for wrong in ("port p", "end", "law 0 = 0", "join a b", ""):
            self.raises(BadLine, 0, wrong + "\n")
            self.raises(BadLine, 2, "part x\nend\n" + wrong + "\n")

    def test_names_of_a_book(self):
        self.raises(BadLine, 2, "part x\ninner v\nsize v = s.t*v'\nend\n")
        self.raises(BadLine, 2, "part x\ninner v\nsize v = s*v' + f.g\nend\n")
        self.raises(BadLine, 2, "part x\ninner v\nlaw 1*v = f.g\nend\n")
        self.raises(BadLine, 2, "part x\ninner v\nlaw 1*v = abcdefghijklm\nend\n")
        self.raises(BadLine, 2, "part x\ninner v\nlaw 1*" + "v" * 201 + " = 0\nend\n")
        self.raises(NoName, 2, "part x\ninner v\nlaw 1*" + "v" * 200 + " = 0\nend\n")
        self.raises(NoName, 2, "part x\ninner v\nlaw 1*v.w.x = 0\nend\n")
        self.raises(BadLine, 2, "part x\nport p\njoin p a.b.c\nend\n")
        self.raises(BadLine, 2, "part x\nport p\njoin p\nend\n")
        self.raises(BadLine, 2, "part x\nport p\njoin\nend\n")
        self.raises(BadLine, 2, "part x\nport p\njoin p abcdefghijklm\nend\n")
        self.raises(BadLine, 2, "part x\nport p\njoin p a.\nend\n")

    def test_too_many(self):
        self.raises(TooMany, 9, "part x\n" + "".join(f"port p{k}\n" for k in range(9)))
        self.raises(TooMany, 9, "part x\n" + "".join(f"port p{k}\n" for k in range(8)) + "port p0\n")
        self.raises(TooMany, 13, "part x\n" + "".join(f"inner p{k}\n" for k in range(13)))
        start = "part y\nend\npart x\n"
        self.raises(TooMany, 15, start + "".join(f"place p{k} y\n" for k in range(13)))
        self.raises(TooMany, 15, start + "".join(f"place p{k} y\n" for k in range(12)) + "place p0 none\n")
        self.raises(TooMany, 21, "part x\n" + "law 0 = 0\n" * 21)
        self.raises(TooMany, 21, "part x\n" + "law 0 = 0\n" * 20 + "size v = s*s + s*s\n")
        self.raises(TooMany, 23, "part x\nport p\nport q\n" + "join p q\n" * 21)
        self.raises(TooMany, 23, "part x\nport p\nport q\n" + "join p q\n" * 20 + "join r r\n")
        self.raises(TooMany, 24, "".join(f"part p{k}\nend\n" for k in range(13)))
        self.raises(TooMany, 24, "".join(f"part p{k}\nend\n" for k in range(12)) + "part p0\n")
        self.assertEqual(len(read_book("".join(f"part p{k}\nend\n" for k in range(12)))), 12)
        text = ("part y\nport p\nend\npart x\n" + "".join(f"port p{k}\n" for k in range(8))
                + "".join(f"inner q{k}\n" for k in range(12)) + "".join(f"place a{k} y\n" for k in range(12))
                + "law 0 = 0\n" * 20 + "join p0 a0.p\n" * 20 + "end\n")
        book = read_book(text)
        self.assertEqual([len(one) for one in book[1][1:]], [8, 12, 12, 20, 20])
        self.assertEqual(write_book(book), text)
        self.assertIsNone(check_book(book))

    def test_taken(self):
        self.raises(TakenName, 2, "part x\nend\npart x\n")
        self.raises(TakenName, 2, "part x\nport p\nport p\n")
        self.raises(TakenName, 2, "part x\nport p\ninner p\n")
        start = "part y\nend\npart x\nport p\ninner v\n"
        self.raises(TakenName, 5, start + "place v y\n")
        self.raises(TakenName, 5, start + "place p none\n")
        self.raises(TakenName, 6, start + "place a y\nplace a y\n")
        self.raises(TakenName, 5, start + "size v = v*v'\n")
        self.raises(TakenName, 5, start + "size v = p*v'\n")
        self.raises(TakenName, 6, start + "place a y\nsize v = a*v'\n")
        self.raises(TakenName, 5, start + "size v = s*v' + s*v''\n")
        self.raises(TakenName, 6, start + "size v = s*v'\nsize v = t*v' + s*none''''\n")
        text = start + "size v = x*v' + y*v'' + v\nlaw 0 = x\nend\npart z\ninner s\nsize s = x*s'\nend\n"
        self.assertEqual(write_book(read_book(text)), text)

    def test_no_part(self):
        self.raises(NoPart, 1, "part x\nplace a y\n")
        self.raises(NoPart, 1, "part x\nplace a x\n")
        self.raises(NoPart, 4, "part y\nend\npart x\nplace a y\nplace y a\nend\n")
        self.raises(NoPart, 1, "part x\nplace a y\nend\npart y\nend\n")

    def test_no_name(self):
        start = "part y\nport q\ninner w\nend\npart x\nport p\ninner v\nplace a y\n"
        for law in ("law 1*w = 0", "law 1*p = 0", "law 1*v + 1*p.x = 0", "law 1*a.q.u = 0", "law 1*a.w = 0",
                    "size w = s*v", "size v = s*p", "size v = s*v' + r*q.u", "law 1*u.p = 0"):
            self.raises(NoName, 8, start + law + "\n")
        for joint in ("p q", "p a", "p v", "p a.w", "a.q b.q", "p.u a.q", "p p.p"):
            self.raises(NoName, 8, start + "join " + joint + "\n")
        self.assertEqual(len(read_book(start + "law 1*p.u - 1*p.i' + 2*v = 0\njoin a.q p\nend\n")), 2)

    def test_out_of_range(self):
        start = "part x\nport p\ninner v\n"
        for law in ("law 0*v = 0", "law -0*v = 0", "law 1000001*v = 0", "law -99999999999999999999*v = 0",
                    "law 1*v'''' = 0", "size v'''' = s*v", "size v = s*v''''"):
            self.raises(OutOfRange, 3, start + law + "\n")
        # Python itself does not read or write numbers of so many digits.
        self.raises(OutOfRange, 3, start + "law " + "9" * 900000 + "*v = 0\n")
        self.raises(OutOfRange, 3, start + "law 1*v" + "'" * 900000 + " = 0\n")

    def test_same_place(self):
        start = "part x\nport p\ninner v\n"
        for line in ("law 1*v + 1*v = 0", "law 1*v + 1*v' - 2*v = 0", "size v = s*v", "size v = s*v' + r*v'",
                     "join p p"):
            self.raises(SamePlace, 3, start + line + "\n")
        self.raises(SamePlace, 3, start + "join" + " p" * 400000 + "\n")

    def test_two_faults_in_one_line(self):
        start = "part y\nport q\nend\npart x\nport p\ninner v\nplace a y\nsize v = s*v'\n"
        for line, error in (
                ("size w'''' = s*w'''' + s*w'''' + F", BadLine), ("size w'''' = s*w'''' + t*w''''", TakenName),
                ("size w'''' = t*w'''' + u*w''''", NoName), ("size v'''' = t*v'''' + u*v''''", OutOfRange),
                ("size v''' = t*v''' + u*v'''", SamePlace), ("law 0*w + 0*w = 0", NoName),
                ("law 0*v + 0*v = 0", OutOfRange), ("join r r", NoName), ("join p p P", BadLine)):
            self.raises(error, 8, start + line + "\n")
        self.raises(BadLine, 8, start + "inner v\n")
        self.raises(BadLine, 8, start + "size v'''' = s*w")

    def test_first_line_counts(self):
        text = "part x\nport p\nlaw 1*q = 0\nport p\nBAD\n"
        self.raises(NoName, 2, text)
        self.raises(BadLine, 3, text.replace("1*q", "1*p.u"))

    def test_made_up(self):
        chance = random.Random(14)
        for _ in range(60):
            ports = [f"p{k}" for k in range(chance.randint(0, 3))]
            inner = [f"v{k}" for k in range(chance.randint(1, 4))]
            quantities = inner + [port + end for port in ports for end in (".u", ".i")]
            low = ("low", ports, inner, [], [], [])
            for n in range(chance.randint(0, 5)):
                places = [(k, j) for k in range(4) for j in quantities]
                places = chance.sample(places, chance.randint(2, 4))
                source = chance.choice(["", "f", "v0"])
                if chance.random() < 0.5:
                    terms = [(chance.choice([-1, 1]) * chance.randint(1, 1000000), k, j) for k, j in places]
                    low[4].append(("exact", terms[chance.randint(0, 4):], source))
                else:
                    terms = [(f"s{n}x{m}", k, j) for m, (k, j) in enumerate(places[1:])]
                    low[4].append(("sized", places[0][0], places[0][1], terms, source))
            top = ("top", ["o"], [], [(f"a{k}", "low") for k in range(chance.randint(1, 3))], [], [])
            texts = ["o"] + [f"{name}.{port}" for name, _ in top[3] for port in ports]
            if len(texts) > 1:
                top[5].extend([chance.sample(texts, 2) for _ in range(chance.randint(0, 3))])
            book = [low, top]
            check_book(book)
            self.assertEqual(read_book(write_book(book)), book)


if __name__ == "__main__":
    unittest.main()
