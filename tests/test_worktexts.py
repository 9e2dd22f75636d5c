import copy
import random
import unittest

from lampforge.errors import NoText
from lampforge.forge import forge
from lampforge.works import is_work
from lampforge.worktexts import paper_text, read_paper, read_work, work_text
from tests.things import ODD, nested, refused, some_work

WORK = (2, [(0, 12), (1, 7)], [(2, 4), (3, 10)], [12, 1, 0])
TEXT = "ins 2\nbox 0 12\nbox 1 7\ngate 2 4\ngate 3 10\nout 12\nout 1\nout 0"
PAPER = ([(4, 6), (0, 999999999)], [("stands", 4, 6, (2,)), ("row", 1, 0, ())], [("row", 12, 13, (2, 4, 6, 8, 10, 12, 14))],
         [("stands", 0, 0, ()), ("stands", 10, 2, (3, 5))])
PAPER_TEXT = ("kept 4 6\nkept 0 999999999\nstart stands 4 6 : 2\nstart row 1 0 :\nnext row 12 13 : 2 4 6 8 10 12 14\n"
              "now stands 0 0 :\nnow stands 10 2 : 3 5")


def kinds(thing):
    if isinstance(thing, (list, tuple)):
        return (type(thing), [kinds(piece) for piece in thing])
    return type(thing)


class WorkTextTest(unittest.TestCase):
    def both_ways(self, work, text=None):
        before = copy.deepcopy(work)
        told = work_text(work)
        if text is not None:
            self.assertEqual(told, text)
        self.assertEqual(work, before)
        read = read_work(told)
        self.assertEqual((read, kinds(read)), (work, kinds(work)))
        for part in read[1:]:
            part.append(None)
        self.assertEqual(read_work(told), work)

    def wrong(self, text):
        refused(self, NoText, {}, read_work, text)

    def test_works(self):
        self.both_ways(WORK, TEXT)
        self.both_ways((0, [], [], []), "ins 0")
        self.both_ways((999999999, [], [], [999999999]), "ins 999999999\nout 999999999")
        self.both_ways((0, [(1, 2)], [], []), "ins 0\nbox 1 2")
        self.both_ways((0, [], [(0, 1)], []), "ins 0\ngate 0 1")
        self.both_ways((0, [], [], [1]), "ins 0\nout 1")

    def test_no_work(self):
        for text in ("ins 0\nbox 2 0", "ins 0\nbox 0 4", "ins 0\ngate 0 2", "ins 0\ngate 2 0", "ins 1\ngate 0 4\ngate 0 0", "ins 0\nout 2",
                     "ins 2\nout 6", "ins 1\nbox 0 6\nout 0"):
            self.wrong(text)

    def test_rows_in_another_order(self):
        for text in ("ins 0\ngate 0 0\nbox 0 0", "ins 0\nout 0\ngate 0 0", "ins 0\nout 0\nbox 0 0", "box 0 0\nins 0", "out 0\nins 0",
                     "ins 0\nins 0", "ins 0\nbox 0 0\nins 0", "ins 0\nbox 0 0\ngate 0 0\nbox 0 0", "ins 0\ngate 0 0\nout 0\ngate 0 0",
                     "box 0 0", "gate 0 0", "out 0", "", "\n", "ins 0\nother 0", "ins 0\nkept 0 0", "other\nins 0"):
            self.wrong(text)

    def test_words_too_few_and_too_many(self):
        for text in ("ins", "ins 0 0", "ins 0\nbox 0", "ins 0\nbox 0 0 0", "ins 0\nbox", "ins 0\ngate 0", "ins 0\ngate 0 0 0", "ins 0\ngate",
                     "ins 0\nout", "ins 0\nout 0 0"):
            self.wrong(text)

    def test_blanks_and_line_ends(self):
        for text in (TEXT + "\n", "\n" + TEXT, TEXT + " ", " " + TEXT, TEXT.replace("\n", "\n\n", 1), TEXT.replace("\n", " "),
                     TEXT.replace(" ", "  ", 1), TEXT.replace(" ", "\t", 1), TEXT.replace("\n", "\r\n"), TEXT.upper()):
            self.wrong(text)
        for place, sign in enumerate(TEXT):
            if sign in " \n":
                self.wrong(TEXT[:place] + sign + TEXT[place:])

    def test_numbers(self):
        for number in ("01", "00", "-1", "+1", "1.0", "a", "1000000000", "1" * 30, "1_0", "", "-0"):
            for text in (f"ins {number}", f"ins 9\nbox 0 {number}", f"ins 9\nbox {number} 1", f"ins 9\ngate {number} 1",
                         f"ins 9\ngate 1 {number}", f"ins 9\nout {number}"):
                self.wrong(text)

    def test_things_that_are_no_texts(self):
        for thing in ODD + (0, WORK, [TEXT], (TEXT,)):
            self.wrong(thing)
            self.wrong(nested(thing, 3))

    def test_any_work(self):
        rng = random.Random(1)
        for turn in range(100):
            self.both_ways(some_work(rng, rng.randrange(5), rng.randrange(5), rng.randrange(12), rng.randrange(5)))
        self.both_ways(some_work(rng, 64, 200, 4000, 64))

    def test_any_text_near_a_work(self):
        rng = random.Random(2)
        counted = [0, 0]
        for turn in range(3000):
            text = TEXT
            for change in range(rng.randint(1, 2)):
                place = rng.randrange(len(text))
                more = rng.choice("0123456789 \n-xb")
                text = text[:place] + rng.choice((more, more, "")) + text[place + rng.randrange(2):]
            try:
                work = read_work(text)
            except NoText:
                counted[0] += 1
                continue
            counted[1] += 1
            self.assertTrue(is_work(work))
            self.assertEqual(work_text(work), text)
        self.assertGreater(min(counted), 100)


class PaperTextTest(unittest.TestCase):
    def both_ways(self, paper, text=None):
        before = copy.deepcopy(paper)
        told = paper_text(paper)
        if text is not None:
            self.assertEqual(told, text)
        self.assertEqual(paper, before)
        read = read_paper(told)
        self.assertEqual((read, kinds(read)), (paper, kinds(paper)))
        for part in read:
            part.append(None)
        self.assertEqual(read_paper(told), paper)

    def wrong(self, text):
        refused(self, NoText, {}, read_paper, text)

    def test_papers(self):
        self.both_ways(PAPER, PAPER_TEXT)
        self.both_ways(([(0, 1)], [], [], []), "kept 0 1")
        self.both_ways(([], [], [], [("row", 3, 4, (5,))]), "now row 3 4 : 5")

    def test_the_paper_of_nothing(self):
        self.both_ways(([], [], [], []), "")
        self.assertEqual(paper_text(((), (), (), ())), "")
        self.wrong("\n")
        self.wrong(" ")

    def test_tuples_for_lists(self):
        self.assertEqual(paper_text(tuple(tuple(part) for part in PAPER)), PAPER_TEXT)

    def test_leaves_of_any_number(self):
        for many in (0, 1, 6, 7, 64, 65, 300):
            leaves = tuple(range(many))
            for word in ("stands", "row"):
                self.both_ways(([], [(word, 0, 1, leaves)], [(word, 2, 3, leaves)], [(word, 4, 5, leaves)]))

    def test_rows_in_another_order(self):
        rows = {"kept": "kept 0 0", "start": "start row 0 0 :", "next": "next row 0 0 :", "now": "now row 0 0 :"}
        names = list(rows)
        for one in names:
            for other in names:
                text = rows[one] + "\n" + rows[other]
                if names.index(one) <= names.index(other):
                    self.assertEqual(paper_text(read_paper(text)), text)
                else:
                    self.wrong(text)

    def test_steps(self):
        for step in ("stands 0 0 : ", "stands 0 0", "stands 0 0 :1", "stands 0 0: 1", "stands 0 : 1", "stands 0 0 0 : 1", "stands : 1",
                     "stands", "", "stand 0 0 :", "rows 0 0 :", "Row 0 0 :", "kept 0 0 :", "0 0 :", "row 0 0 : :", "row 0 0 : 1 : 2",
                     "row 0 0 ; 1", "row 0 0 : a", "row a 0 :", "row 0 a :", "row 0 0 : 01", "row 00 0 :", "row 0 -1 :", "row 0 0 : -1",
                     "row 1000000000 0 :", "row 0 0 : 1000000000", "row 0 0 :  1", "row  0 0 :", "row 0 0  :", "row 0 0 1 2", "row 0 0 1"):
            for word in ("start", "next", "now"):
                self.wrong(f"{word} {step}")
                self.wrong(f"kept 0 1\n{word} {step}")
                self.wrong(f"{word} {step}\n{word} row 0 0 :")

    def test_kept_pairs(self):
        for row in ("kept", "kept 0", "kept 0 0 0", "kept a 0", "kept 0 a", "kept 01 0", "kept 0 -1", "kept 0 : 0", "kept  0 0", "kept 0 0 ",
                    "kept 1000000000 0", "Kept 0 0", "keep 0 0", "0 0", "other 0 0"):
            self.wrong(row)
            self.wrong("kept 0 0\n" + row)

    def test_blanks_and_line_ends(self):
        for text in (PAPER_TEXT + "\n", "\n" + PAPER_TEXT, PAPER_TEXT + " ", " " + PAPER_TEXT, PAPER_TEXT.replace("\n", " ")):
            self.wrong(text)
        for place, sign in enumerate(PAPER_TEXT):
            if sign in " \n":
                self.wrong(PAPER_TEXT[:place] + sign + PAPER_TEXT[place:])

    def test_things_that_are_no_texts(self):
        for thing in ODD + (0, PAPER, [PAPER_TEXT], ([], [], [], [])):
            if thing != "":
                self.wrong(thing)
                self.wrong(nested(thing, 3))

    def test_papers_of_passes(self):
        rng = random.Random(3)
        for turn in range(30):
            work = some_work(rng, rng.randrange(4), rng.randrange(4), rng.randrange(9), 2)
            for word, new, paper in forge(work, "moved known low agree like heard"):
                self.both_ways(paper)
                self.assertEqual(read_work(work_text(new)), new)


if __name__ == "__main__":
    unittest.main()
