import copy
import random
import unittest

from lampforge.errors import NoText
from lampforge.plans import is_plan
from lampforge.plantexts import plan_text, read_plan
from tests.things import A, B, ODD, WORDS, chain, nested, refused, some_plan, swapped, thirty_nine_and, tree, wire_row, wired

# A plan with each kind of row, and its text.
PLAN = [
    ("low", (("i", 2), ("j", 1)), (("o", 2), ("j", 1)), (("box", "o", 2, 3, ("sum", wired("i"), wired("o"))),)),
    ("none", (), (), ()),
    ("top", (("a", 4), ("b", 4)), (("c", 4),),
     (("wire", "c", 4, ("choice", ("under", A, B), ("not", A), ("number", 12, 4))),
      ("part", "u", "low", (("cut", 1, 2, A), ("same", A, B)), ("p", "q")),
      ("times", 3, "v", "low", (wired("p"), wired("q")), ("r", "s")),
      ("part", "w", "none", (), ()), ("times", 8, "x", "none", (), ()),
      ("wire", "t", 8, ("table", 8, (0, 255, 7, 10), ("join", wired("q"), wired("s")))))),
]
TEXT = """part low
in i 2
in j 1
out o 2
out j 1
box o 2 3 = sum i o
end
part none
end
part top
in a 4
in b 4
out c 4
wire c 4 = choice under a b not a 12:4
use u low p q = cut 1 2 a same a b
times 3 v low r s = p q
use w none =
times 8 x none =
wire t 8 = table 8 4 0 255 7 10 join q s
end"""


def of_row(row):
    return "part top\n" + row + "\nend"


class PlanTextTest(unittest.TestCase):
    def same_kinds(self, one, other):
        self.assertIs(type(one), type(other))
        if isinstance(one, (list, tuple)):
            self.assertEqual(len(one), len(other))
            for left, right in zip(one, other):
                self.same_kinds(left, right)
        else:
            self.assertEqual(one, other)

    def both_ways(self, plan, text=None):
        before = copy.deepcopy(plan)
        told = plan_text(plan)
        self.assertIs(type(told), str)
        if text is not None:
            self.assertEqual(told, text)
        self.assertEqual(plan, before)
        read = read_plan(told)
        self.same_kinds(read, plan)
        read.append(None)
        self.same_kinds(read_plan(told), plan)
        self.assertEqual(plan_text(read_plan(told)), told)

    def wrong(self, text):
        refused(self, NoText, {}, read_plan, text)

    def right(self, text):
        self.assertEqual(plan_text(read_plan(text)), text)
        self.assertTrue(is_plan(read_plan(text)))

    def test_a_plan(self):
        self.both_ways(PLAN, TEXT)
        self.both_ways([("top", (), (), ())], "part top\nend")

    def test_each_kind_of_saying(self):
        for saying, text in ((A, "a"), (("number", 0, 1), "0:1"), (("number", 255, 8), "255:8"), (("not", A), "not a"),
                             (("and", A, B), "and a b"), (("or", A, B), "or a b"), (("odd", A, B), "odd a b"),
                             (("sum", A, B), "sum a b"), (("less", A, B), "less a b"), (("under", A, B), "under a b"),
                             (("same", A, B), "same a b"), (("choice", A, B, A), "choice a b a"), (("up", 0, A), "up 0 a"),
                             (("down", 8, A), "down 8 a"), (("join", A, B), "join a b"), (("cut", 7, 1, A), "cut 7 1 a"),
                             (("table", 1, (0, 1), A), "table 1 2 0 1 a"),
                             (("and", ("and", A, B), ("not", ("up", 3, B))), "and and a b not up 3 b"),
                             (("join", ("number", 1, 2), ("cut", 0, 8, ("number", 3, 4))), "join 1:2 cut 0 8 3:4")):
            self.both_ways([("top", (), (), (wire_row("w", saying),))], of_row("wire w 1 = " + text))
            self.both_ways([("top", (), (), (("box", "w", 3, 5, saying),))], of_row("box w 3 5 = " + text))
            self.both_ways([("top", (), (), (("part", "u", "v", (saying, A, saying), ("x",)),))],
                           of_row(f"use u v x = {text} a {text}"))
            self.both_ways([("top", (), (), (("times", 2, "u", "v", (saying,), ("x", "y")),))],
                           of_row(f"times 2 u v x y = {text}"))

    def test_tables(self):
        for many in (2, 4, 8, 16):
            for width in (1, 8):
                numbers = tuple(place % 2 ** width for place in range(many))
                text = " ".join(str(number) for number in numbers)
                self.both_ways([("top", (), (), (wire_row("w", ("table", width, numbers, A)),))],
                               of_row(f"wire w 1 = table {width} {many} {text} a"))
        for text in ("table 1 1 0 a", "table 1 0 a", "table 1 3 0 1 0 a", "table 1 2 0 1 0 a", "table 1 2 0 a", "table 1 2 0 2 a",
                     "table 0 2 0 0 a", "table 9 2 0 1 a", "table 1 17 " + "0 " * 17 + "a", "table 1 32 " + "0 " * 32 + "a",
                     "table 1 2 0 1", "table 1 2", "table 1", "table", "table 1 999999999 0 1 a", "table 1 2 0 01 a",
                     "table 1 2 0 1 a b", "table 1 02 0 1 a", "table 1 2 a 0 1", "table 1 0 1 a", "table 1 16 " + "0 " * 15 + "a"):
            self.wrong(of_row("wire w 1 = " + text))

    def test_names_called_like_the_words_of_rows(self):
        names = ("part", "in", "out", "box", "use", "times", "end", "kept", "ins")
        for name in names:
            part = (name, ((name, 1),), ((name, 1),), (wire_row(name, wired(name)), ("box", name, 1, 0, ("not", wired(name))),
                                                       ("part", name, name, (wired(name),), (name, name)),
                                                       ("times", 2, name, name, (wired(name), wired(name)), (name,))))
            self.both_ways([part, part], "\n".join([
                f"part {name}\nin {name} 1\nout {name} 1\nwire {name} 1 = {name}\nbox {name} 1 0 = not {name}",
                f"use {name} {name} {name} {name} = {name}\ntimes 2 {name} {name} {name} = {name} {name}\nend"] * 2))

    def test_words_are_no_names(self):
        for word in WORDS + ("A", "a1", "abcdefghi", "a.b", "=", ":", "a=", "1"):
            for text in (f"part {word}\nend", f"part a\nin {word} 1\nend", f"part a\nout {word} 1\nend",
                         of_row(f"wire {word} 1 = a"), of_row(f"box {word} 1 0 = a"), of_row(f"use {word} b = a"),
                         of_row(f"use b {word} = a"), of_row(f"use b c {word} = a"), of_row(f"times 1 {word} b = a"),
                         of_row(f"times 1 b {word} = a"), of_row(f"times 1 b c d {word} = a")):
                self.wrong(text)
        for word in ("wire", "number", "wire a", "number 1 1", "A", "a1", "abcdefghi", "a.b", "=", ":", "a:1", "1:a", "1", "a b",
                     "not", "and a", "choice a b", "and a b c", "up a", "up 1", "up 1 2 a", "cut 1 a", "cut 1 1 1 a", "1:1:1", "1: 1",
                     "1 :1", "1 : 1", ":1", "1:", "not not", "not a a", "", "(a)"):
            self.wrong(of_row("wire w 1 = " + word))
            self.wrong(of_row("box w 1 0 = " + word))

    def test_no_plan_by_its_form(self):
        for text in ("wire w 0 = a", "wire w 9 = a", "box w 1 2 = a", "box w 0 0 = a", "times 0 u v = a", "times 9 u v = a",
                     "wire w 1 = 2:1", "wire w 1 = 0:0", "wire w 1 = 0:9", "wire w 1 = up 9 a", "wire w 1 = cut 8 1 a",
                     "wire w 1 = cut 0 0 a", "wire w 1 = cut 0 9 a", "use u v " + "x " * 9 + "=", "use u v = " + "a " * 8 + "a",
                     "wire w 1 = " + "not " * 6 + "a"):
            self.wrong(of_row(text))
        self.right(of_row("use u v " + "x " * 8 + "= " + "a " * 7 + "a"))
        self.right(of_row("wire w 1 = " + "not " * 5 + "a"))
        for port in ("in", "out"):
            self.wrong(f"part a\n{port} x 0\nend")
            self.wrong(f"part a\n{port} x 9\nend")
            self.right("part a\n" + f"{port} x 1\n" * 8 + "end")
            self.wrong("part a\n" + f"{port} x 1\n" * 9 + "end")
        self.right("part a\n" + "wire w 1 = a\n" * 20 + "end")
        self.wrong("part a\n" + "wire w 1 = a\n" * 21 + "end")

    def test_how_many_parts(self):
        for many in range(1, 7):
            self.right("\n".join(["part a\nend"] * many))
        self.wrong("\n".join(["part a\nend"] * 7))
        self.wrong("")
        self.wrong("\n")
        self.wrong("end")

    def test_what_only_the_looker_refuses(self):
        for text in ("part a\nend\npart a\nend", "part a\nin x 1\nin x 2\nout y 1\nend", of_row("wire w 1 = never"),
                     of_row("wire w 1 = 3:8"), of_row("use u never ="), of_row("wire a 1 = a"), of_row("use u top x x = a b c"),
                     of_row("wire w 8 = join 0:8 0:8")):
            self.right(text)

    def test_deep_sayings(self):
        for deep in range(1, 60):
            text = of_row("wire w 1 = " + "not " * deep + "a")
            if deep < 6:
                self.right(text)
            else:
                self.wrong(text)
        self.wrong(of_row("wire w 1 = " + "and " * 59 + "a " * 59 + "a"))
        self.both_ways([("top", (), (), (wire_row("w", chain(6)), wire_row("v", thirty_nine_and(A)), wire_row("x", tree(5))))])
        self.wrong(of_row("wire w 1 = join " + plan_text([("a", (), (), (wire_row("w", thirty_nine_and(A)),))]).split("= ")[1][:-4]
                          .replace("join ", "") + " a a a"))

    def test_blanks_and_line_ends(self):
        self.assertEqual(read_plan(TEXT), PLAN)
        for text in (TEXT + "\n", "\n" + TEXT, TEXT + " ", " " + TEXT, TEXT.replace("\n", "\n\n", 1), TEXT.replace("\n", " \n", 1),
                     TEXT.replace("\n", "\n ", 1), TEXT.replace("\n", " "), TEXT.replace(" ", "  ", 1), TEXT.replace(" ", "", 1),
                     TEXT.replace(" ", "\t", 1), TEXT.replace("\n", "\r\n"), TEXT.upper(), TEXT.replace(" = ", "="),
                     TEXT.replace("=", "= ", 1), TEXT.replace("12:4", "12: 4"), TEXT.replace("12:4", "12 4")):
            self.wrong(text)
        for place, sign in enumerate(TEXT):
            if sign in " \n":
                self.wrong(TEXT[:place] + sign + TEXT[place:])
            if sign == "\n":
                self.wrong(TEXT[:place] + TEXT[place + 1:])

    def test_rows_out_of_order_left_out_and_twice(self):
        rows = TEXT.split("\n")
        for text in ("part a\nout x 1\nin y 1\nend", "part a\nwire w 1 = a\nin x 1\nend", "part a\nwire w 1 = a\nout x 1\nend",
                     "in x 1\npart a\nend", "part a\npart b\nend", "part a\nend\nend", "part a", "part a\nend\npart b", "part a b\nend",
                     "part\nend", "part a\nend b", "end\npart a\nend", "part a\nin x 1\nout y 1\nin z 1\nend", "wire w 1 = a",
                     "part a\nother\nend", "part a\nother x = a\nend", "part a\nin x = a\nend", "part a\npart = a\nend", "part a\n=\nend",
                     "part a\n= a\nend", "part a\nend = a\nend"):
            self.wrong(text)
        for place, row in enumerate(rows):
            if row == "end" or row.startswith("part"):
                self.wrong("\n".join(rows[:place] + rows[place + 1:]))
                self.wrong("\n".join(rows[:place] + [row] + rows[place:]))
            else:
                self.right("\n".join(rows[:place] + rows[place + 1:]))
                self.right("\n".join(rows[:place] + [row] + rows[place:]))

    def test_words_too_few_and_too_many(self):
        for row in ("wire w 1 =", "wire w = a", "wire 1 = a", "wire = a", "wire w 1 a", "wire w 1 1 = a", "wire w 1 = a a",
                    "box w 1 = a", "box w 1 0 0 = a", "box w 1 0 =", "box w 1 0 = a a", "box = a", "use = a", "use u = a", "use u v a",
                    "use u", "times 2 u = a", "times 2 = a", "times = a", "times u v w = a", "times 2 u v a", "use u v x = = a",
                    "wire w 1 = = a", "wire w 1 == a", "use u v = a =", "part u v = a"):
            self.wrong(of_row(row))
        for row in ("in x", "in 1", "in x 1 1", "in", "in x y", "out x", "out x 1 1", "in x =", "out"):
            self.wrong(of_row(row))

    def test_numbers(self):
        for number in ("01", "00", "-1", "+1", "1.0", "", "a", "0x1", "1_0", "1000000000", "1" * 10, "1" * 30, "--1", "1e0", "'1'"):
            self.wrong(of_row(f"wire w {number} = a"))
            self.wrong(of_row(f"wire w 1 = {number}:1"))
            self.wrong(of_row(f"wire w 1 = 1:{number}"))
            self.wrong(of_row(f"wire w 1 = up {number} a"))
            self.wrong(of_row(f"box w 1 {number} = a"))
            self.wrong(of_row(f"times {number} u v = a"))
            self.wrong(f"part a\nin x {number}\nend")
            self.wrong(of_row(f"wire w 1 = table 8 2 0 {number} a"))
        # Read, though no number of the width: then it is no plan.
        for number in ("999999999", "100000000", "256"):
            self.wrong(of_row(f"wire w 1 = {number}:8"))

    def test_things_that_are_no_texts(self):
        for thing in ODD + (0, PLAN, [TEXT], (TEXT,), TEXT.split("\n"), {}):
            if thing != TEXT:
                self.wrong(thing)
                self.wrong(nested(thing, 4))

    def test_any_plan(self):
        rng = random.Random(1)
        for turn in range(100):
            self.both_ways(some_plan(rng, parts=rng.randint(1, 6)))

    def test_any_text_near_a_plan(self):
        """Whatever is read is a plan, and is written again to the same text."""
        rng = random.Random(2)
        counted = [0, 0]
        signs = "abcdeinoprstuw019 =:\n-"
        for turn in range(4000):
            text = rng.choice((TEXT, plan_text(some_plan(rng, parts=2, rows=3))))
            for change in range(rng.randint(1, 2)):
                place = rng.randrange(len(text))
                kind = rng.randrange(4)
                if kind == 0:
                    text = text[:place] + text[place + 1:]
                elif kind == 1:
                    text = text[:place] + rng.choice(signs) + text[place + 1:]
                elif kind == 2:
                    text = text[:place] + rng.choice(signs) + text[place:]
                else:
                    words = text.split(" ")
                    words[rng.randrange(len(words))] = rng.choice(words)
                    text = " ".join(words)
            try:
                plan = read_plan(text)
            except NoText:
                counted[0] += 1
                continue
            counted[1] += 1
            self.assertTrue(is_plan(plan))
            self.assertEqual(plan_text(plan), text)
        self.assertGreater(min(counted), 300)

    def test_a_long_text(self):
        self.wrong("part a\n" + "wire w 1 = a\n" * 1500 + "end")
        self.wrong(of_row("use u v = " + "a " * 9000 + "a"))
        self.wrong("x" * 20000)
        self.wrong(swapped((1, 2), 0, TEXT))


if __name__ == "__main__":
    unittest.main()
