import itertools
import random
import unittest

from lampforge.beats import run
from lampforge.desk import Desk
from lampforge.errors import (Never, NoName, NoPair, NoPart, NoRow, NoText, NoWidth, NoWord, Ring, TooMuch, Twice)
from lampforge.forge import forge
from lampforge.making import made
from lampforge.papers import look_two
from lampforge.plantexts import plan_text, read_plan
from lampforge.runs import run_plan
from lampforge.worktexts import paper_text, read_paper, read_work, work_text
from tests.things import ODD, ends_of_bits, nested, plain_bits, plain_run, refused, some_beats, some_plan, some_work

# An in of two bits that a box sums up.
PLAN = """part top
in a 2
out s 2
box s 2 1 = sum s a
end"""
WORK = (1, [(0, 2), (1, 4)], [(4, 7)], [8, 6])
TEXT = work_text(WORK)
WORDS = ("heard", "known", "like", "low", "agree", "moved")


def filled():
    desk = Desk()
    desk.say("work a\n" + TEXT)
    desk.say("work b\n" + TEXT)
    desk.say("work c\nins 2\nout 2")
    desk.say("work d\nins 7\nout 2")
    desk.say("work e\nins 0\nbox 0 3\nout 2")
    return desk


def used():
    """A desk with a paper too."""
    desk = filled()
    desk.say("pass g a moved")
    return desk


class DeskTest(unittest.TestCase):
    def refuses(self, desk, text, kind, **values):
        """Whether a text is refused, and changes nothing."""
        before = self.shown(desk)
        refused(self, kind, values, desk.say, text)
        self.assertEqual(self.shown(desk), before)

    def shown(self, desk):
        told = []
        for text in ["show " + name for name in "abcdefgxyz"] + ["paper"]:
            try:
                told.append(desk.say(text))
            except (NoName, NoRow):
                told.append(None)
        return told


class AnswerTest(DeskTest):
    def test_make(self):
        desk = Desk()
        self.assertEqual(desk.say("make a\n" + PLAN), "ok")
        self.assertEqual(desk.say("show a"), work_text(made(read_plan(PLAN))))
        self.assertEqual(desk.say("run a\n10\n01\n11\n00"), "10\n01\n00\n11")

    def test_work_and_show(self):
        desk = Desk()
        self.assertEqual(desk.say("work a\n" + TEXT), "ok")
        self.assertEqual(desk.say("show a"), TEXT)
        self.assertEqual(desk.say("work b\nins 0"), "ok")
        self.assertEqual(desk.say("show b"), "ins 0")
        self.assertEqual(desk.say("show a"), TEXT)

    def test_names_that_stand_already(self):
        desk = filled()
        self.assertEqual(desk.say("work a\nins 3"), "ok")
        self.assertEqual(desk.say("show a"), "ins 3")
        self.assertEqual(desk.say("make a\n" + PLAN), "ok")
        self.assertEqual(desk.say("size a").split(" ")[0], "2")
        self.assertEqual(desk.say("show b"), TEXT)

    def test_size(self):
        desk = filled()
        self.assertEqual(desk.say("size a"), "1 2 1 2")
        self.assertEqual(desk.say("size c"), "2 0 0 1")
        desk.say("work x\nins 10\nbox 0 0\nbox 0 0\nbox 0 0\ngate 0 0\ngate 0 0\nout 1")
        self.assertEqual(desk.say("size x"), "10 3 2 1")

    def test_run(self):
        desk = filled()
        self.assertEqual(desk.say("run a\n1\n0\n1\n1"), "\n".join("".join(map(str, row)) for row in plain_bits(WORK, [[1], [0], [1], [1]])))
        self.assertEqual(desk.say("run c\n10\n01\n11"), "1\n0\n1")
        self.assertEqual(desk.say("run a\n1"), "01")
        self.assertEqual(desk.say("run a"), "")

    def test_run_without_ins_or_outs(self):
        desk = filled()
        self.assertEqual(desk.say("run e"), "")
        self.assertEqual(desk.say("run e\n"), "0")
        self.assertEqual(desk.say("run e\n\n\n"), "0\n1\n0")
        desk.say("work x\nins 1")
        self.assertEqual(desk.say("run x\n1\n0\n1"), "\n\n")
        self.assertEqual(desk.say("run x\n1"), "")

    def test_pass_and_paper(self):
        for word in WORDS:
            desk = filled()
            self.assertEqual(desk.say("pass x a " + word), "ok")
            new, paper = forge(WORK, word)[0][1:]
            self.assertEqual(desk.say("show x"), work_text(new))
            self.assertEqual(desk.say("show a"), TEXT)
            self.assertEqual(desk.say("paper"), paper_text(paper))
            self.assertEqual(desk.say("look a x\n" + desk.say("paper")), "yes")
            self.assertIsNone(look_two(read_work(desk.say("show a")), read_work(desk.say("show x")), read_paper(desk.say("paper"))))

    def test_a_pass_under_its_own_and_another_name(self):
        desk = filled()
        self.assertEqual(desk.say("pass a a moved"), "ok")
        self.assertEqual(desk.say("show a"), work_text(forge(WORK, "moved")[0][1]))
        self.assertEqual(desk.say("show b"), TEXT)
        self.assertEqual(desk.say("look b a\n" + desk.say("paper")), "yes")
        self.assertEqual(desk.say("pass c b known"), "ok")
        self.assertEqual(desk.say("show c"), work_text(forge(WORK, "known")[0][1]))

    def test_the_paper_of_the_last_pass(self):
        desk = filled()
        self.refuses(desk, "paper", NoRow)
        desk.say("pass x a moved")
        desk.say("pass y a known")
        self.assertEqual(desk.say("paper"), paper_text(forge(WORK, "known")[0][2]))
        desk.say("work z\nins 1")
        desk.say("look a y\n" + desk.say("paper"))
        desk.say("meet a b 500")
        self.assertEqual(desk.say("paper"), paper_text(forge(WORK, "known")[0][2]))
        desk.say("pass y c heard")
        self.assertEqual(desk.say("paper"), "")

    def test_look(self):
        desk = filled()
        self.assertEqual(desk.say("look c c"), "yes")
        self.assertEqual(desk.say("look c c\n"), "yes")
        self.assertEqual(desk.say("look a b"), "no now 0")
        self.assertEqual(desk.say("look a b\n"), "no now 0")
        # Beside one another: in 1, boxes 2 3 and 4 5, gates 6 and 7; in the next net gates 7 8, then 9 10.
        good = "kept 4 8\nkept 6 10\nnext stands 14 16 : 4 6\nnow row 12 14 : 4 7"
        self.assertEqual(desk.say("look a b\n" + good), "yes")
        self.assertEqual(desk.say("look a b\nkept 4 8"), "no now 0")
        self.assertEqual(desk.say("look a b\nkept 4 16"), "no kept 0")
        self.assertEqual(desk.say("look a b\nkept 4 8\nkept 4 10"), "no start 0")
        self.assertEqual(desk.say("look a b\nkept 6 10"), "no next 0")
        self.assertEqual(desk.say("look a b\n" + good + "\nnow row 12 14 : 4"), "no now 1")
        self.assertEqual(desk.say("look a b\nstart row 0 0 :\nstart row 0 1 :"), "no start 1")
        self.assertEqual(desk.say("look a b\nkept 4 8\nkept 6 10\nnow row 12 14 : 4 6 8"), "no now 0")

    def test_meet(self):
        desk = filled()
        for most in ("500", "12"):
            self.assertEqual(desk.say("meet a b " + most), "alike 4")
        self.assertEqual(desk.say("meet a b 4"), "alike 4")
        self.assertEqual(desk.say("meet a b 1"), "open")
        self.assertEqual(desk.say("meet c c 1"), "alike 1")
        desk.say("work x\nins 1\nbox 0 2\nbox 1 5\ngate 4 7\nout 8\nout 6")
        told = desk.say("meet a x 500").split("\n")
        self.assertEqual(told[0], "part")
        self.assertTrue(all(row in ("0", "1") for row in told[1:]))
        beats = "\n".join(told[1:])
        one, other = desk.say("run a\n" + beats).split("\n"), desk.say("run x\n" + beats).split("\n")
        self.assertEqual(len(one), 2)
        self.assertEqual(one[:-1], other[:-1])
        self.assertNotEqual(one[-1], other[-1])

    def test_partings_without_ins(self):
        desk = filled()
        desk.say("work x\nins 0\nout 0")
        self.assertEqual(desk.say("meet e x 500"), "part\n\n")
        desk.say("work y\nins 0\nout 1")
        self.assertEqual(desk.say("meet e y 500"), "part\n")
        self.assertEqual(desk.say("meet e e 2"), "alike 2")

    def test_two_desks(self):
        one, other = Desk(), Desk()
        one.say("work a\n" + TEXT)
        self.refuses(other, "show a", NoName, part="a", name="a")
        other.say("work a\nins 5")
        one.say("pass a a moved")
        self.refuses(other, "paper", NoRow)
        self.assertEqual(other.say("show a"), "ins 5")


class RefusalTest(DeskTest):
    def test_no_text(self):
        for thing in ODD + (0, ["show a"], ("show", "a")):
            if thing != "":
                self.refuses(used(), thing, NoRow)
                self.refuses(used(), nested(thing, 2), NoRow)

    def test_another_first_word(self):
        for text in ("", " ", "\n", "shows a", "Show a", "SHOW a", "a", "make", "forge a", "\nshow a", " show a", "open a", "heard a", "ok"):
            self.refuses(used(), text, NoRow)

    def test_words_too_few_and_too_many(self):
        for text in ("make", "work", "show", "size", "run", "pass", "pass x", "pass x a", "look", "look a", "meet", "meet a", "meet a b",
                     "make a b", "work a b", "show a b", "size a b", "run a b", "pass x a heard low", "paper a", "look a b c",
                     "meet a b 500 c", "show  a", "show a ", " show a", "pass x a  ", "pass x a  heard", "pass x a heard ",
                     "pass  a ", "pass x  ", "paper ", "look a  b", "look a b ", "meet a b ", "meet a b  5", "run a ", "make a ",
                     "work a ", "size a ", "pass x  heard", "pass  a heard"):
            for behind in ("", "\n", "\n" + TEXT):
                self.refuses(used(), text + behind, NoRow)

    def test_names(self):
        for name in ("A", "a1", "abcdefghi", "and", "wire", "table", "a.b", "1", "a-", "=", "number"):
            for text in (f"make {name}\n{PLAN}", f"work {name}\n{TEXT}", f"show {name}", f"size {name}", f"run {name}", f"run {name}\n1",
                         f"pass {name} a heard", f"pass x {name} heard", f"look {name} a", f"look a {name}", f"meet {name} a 5",
                         f"meet a {name} 5"):
                self.refuses(used(), text, NoRow)
        desk = used()
        for name in ("make", "paper", "ins", "abcdefgh", "heard", "ok", "run"):
            self.assertEqual(desk.say(f"work {name}\n{TEXT}"), "ok")
            self.assertEqual(desk.say(f"pass {name} {name} heard"), "ok")
            self.assertEqual(desk.say(f"look {name} {name}\n" + desk.say("paper")), desk.say(f"look {name} {name}\n" + desk.say("paper")))

    def test_mosts(self):
        for most in ("0", "501", "01", "0500", "-1", "+1", "a", "1.0", "", "1000000000", "5 0", "00", "999999999"):
            self.refuses(used(), "meet a b " + most, NoRow)
            self.refuses(used(), "meet x y " + most, NoRow)
        for most in ("1", "2", "10", "499", "500"):
            self.assertIn(used().say("meet a b " + most), ("alike 4", "open"))

    def test_a_line_end_where_nothing_is_due(self):
        for text in ("show a", "size a", "pass x a heard", "pass x a ", "pass x a other", "meet a b 500", "paper"):
            for behind in ("\n", "\n" + TEXT, "\n\n", "\nx"):
                desk = used()
                desk.say("pass y a moved")
                self.refuses(desk, text + behind, NoRow)

    def test_rows_ahead_of_texts_and_names(self):
        for text in ("make A\nx", "work A\nx", "run A\nx", "look A x\nx", "look x A\nx", "pass A x other", "pass A x ",
                     "pass x A ", "meet x y 0", "show A", "look x\nx"):
            self.refuses(used(), text, NoRow)

    def test_texts_behind(self):
        for text in ("make x", "make x\n", "make x\nx", "make x\n" + PLAN + "\n", "make x\npart a", "make x\n" + TEXT, "work x", "work x\n",
                     "work x\nx", "work x\n" + TEXT + "\n", "work x\nins 0\nout 2", "work x\n" + PLAN, "run a\nx", "run a\n2", "run a\n1\nx",
                     "run a\n1 ", "run a\n1\n ", "look a b\nx", "look a b\nkept", "look a b\nkept 0 0\n", "look a b\n\n", "make a\nx",
                     "look a b\nnow other 0 0 :"):
            self.refuses(used(), text, NoText)

    def test_texts_ahead_of_names(self):
        for text in ("run x\nx", "run x\n1\n2", "run x\n1 1", "look x y\nx", "look x y\nkept 0", "look a y\nkept 0", "look y a\nkept 0"):
            self.refuses(used(), text, NoText)

    def test_names_that_do_not_stand(self):
        for text in ("show x", "size x", "run x", "run x\n", "run x\n1", "run x\n\n1\n1111", "pass y x heard", "pass a x heard", "look x a",
                     "look a x", "look x y", "look x c\nkept 0 0", "meet x a 5", "meet a x 5", "meet x y 500", "look x d"):
            self.refuses(used(), text, NoName, part="x", name="x")

    def test_names_ahead_of_what_is_refused_later(self):
        # How many signs a beat has; another word of a pass; works that are no pair.
        for text in ("run x\n11111\n1", "pass y x other", "pass y x ", "pass a x ", "look x c",
                     "look d x\nkept 900 900", "meet d x 5", "meet x c 5"):
            self.refuses(used(), text, NoName, part="x", name="x")

    def test_how_many_signs(self):
        for text in ("run a\n", "run a\n11", "run a\n1\n11", "run a\n1\n\n1", "run a\n1\n", "run c\n1", "run c\n111", "run c\n11\n1", "run e\n1",
                     "run e\n0\n", "run d\n111111", "run d\n11111111"):
            self.refuses(used(), text, NoText)
        self.assertEqual(used().say("run d\n1111111"), "1")

    def test_other_words_of_passes(self):
        for word in ("other", "Heard", "hear", "heards", "a", "known,", "pass", "1", "", "heard,low"):
            for desk in (filled(), used()):
                self.refuses(desk, "pass x a " + word, NoWord)
                self.refuses(desk, "pass a a " + word, NoWord)
                self.refuses(desk, "pass a x " + word, NoName, part="x", name="x")

    def test_what_the_looker_refuses(self):
        desk = used()
        for text, kind, values in (
                ("part a\nend\npart a\nend", NoName, {"part": "a", "name": "a"}),
                ("part a\nin x 1\nin x 1\nend", Twice, {"part": "a", "name": "x"}),
                ("part a\nuse u b =\nend", NoPart, {"part": "a", "name": "u"}),
                ("part a\nwire w 1 = n\nend", Never, {"part": "a", "name": "n"}),
                ("part a\nwire w 1 = 0:2\nend", NoWidth, {"part": "a", "name": "w"}),
                ("part a\nwire w 1 = w\nend", Ring, {"names": ["w"]}),
                ("part a\nwire x 1 = 0:1\nwire y 1 = 0:1\nwire z 1 = 0:1\nend\npart b\ntimes 8 u a =\ntimes 8 v a =\ntimes 5 w a =\nend",
                 TooMuch, {})):
            self.refuses(desk, "make x\n" + text, kind, **values)
            self.refuses(desk, "make a\n" + text, kind, **values)

    def test_works_that_are_no_pair(self):
        for text in ("look a c", "look c a\nkept 900 900", "look c d", "meet a c 500", "meet c a 1", "meet d c 500", "meet d d 500", "look e a"):
            self.refuses(used(), text, NoPair)
        self.assertEqual(used().say("look d d"), "yes")


class WholeTest(unittest.TestCase):
    """Whole ways: a plan's text made, run, passed, looked at, met with the first work."""

    def whole(self, plan, rng, words, many=5):
        desk = Desk()
        ins, outs = plan[-1][1:3]
        beats = some_beats(rng, ins, many)
        told = run_plan(plan, beats)
        self.assertEqual(told, plain_run(plan, beats))
        self.assertEqual(desk.say("make work\n" + plan_text(plan)), "ok")
        width = sum(size for name, size in ins)
        rows = ["".join(map(str, ends_of_bits(beat, ins))) for beat in beats]
        due = "\n".join("".join(map(str, ends_of_bits(row, outs))) for row in told)
        asked = "\n".join([""] + rows)
        self.assertEqual(desk.say("run work" + asked), due)
        ahead = "work"
        for place, word in enumerate(words):
            new = "abcdefgh"[place]
            self.assertEqual(desk.say(f"pass {new} {ahead} {word}"), "ok")
            self.assertEqual(desk.say(f"run {new}" + asked), due)
            self.assertEqual(desk.say(f"look {ahead} {new}\n" + desk.say("paper")), "yes")
            work = read_work(desk.say(f"show {new}"))
            self.assertEqual(run(work, [ends_of_bits(beat, ins) for beat in beats]), [ends_of_bits(row, outs) for row in told])
            if width <= 6:
                self.assertIn(desk.say(f"meet work {new} 500").split(" ")[0], ("alike", "open"))
            ahead = new

    def test_every_row_of_two_words(self):
        rng = random.Random(1)
        plan = read_plan(PLAN)
        low = read_plan("part low\nin i 2\nout o 2\nbox o 2 2 = choice same i o not o sum i o\nend\n"
                        "part top\nin a 2\nin b 1\nout x 2\nout y 2\nout z 1\nuse u low x = a\ntimes 2 v low y = up 1 a\n"
                        "wire z 1 = and b under x y\nend")
        for words in itertools.product(WORDS, repeat=2):
            self.whole(plan, rng, words)
            self.whole(low, rng, words)

    def test_rows_of_more_words(self):
        rng = random.Random(2)
        for turn in range(60):
            plan = some_plan(rng, parts=rng.randint(1, 4), widest=rng.choice((1, 2, 4)))
            self.whole(plan, rng, [rng.choice(WORDS) for word in range(rng.randint(1, 5))])

    def test_works_told_by_texts(self):
        rng = random.Random(3)
        for turn in range(40):
            work = some_work(rng, rng.randrange(4), rng.randrange(4), rng.randrange(8), 2)
            desk = Desk()
            self.assertEqual(desk.say("work a\n" + work_text(work)), "ok")
            for word in WORDS:
                desk.say("pass b a " + word)
                self.assertEqual(desk.say("look a b\n" + desk.say("paper")), "yes")
                self.assertIn(desk.say("meet a b 500").split(" ")[0], ("alike", "open"))
                desk.say("pass a b heard")


if __name__ == "__main__":
    unittest.main()
