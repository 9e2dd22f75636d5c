import copy
import itertools
import random
import unittest

from lampforge.agree import agree
from lampforge.errors import NoWord
from lampforge.forge import forge
from lampforge.heard import heard
from lampforge.known import known
from lampforge.like import like
from lampforge.low import low
from lampforge.moved import moved
from lampforge.making import made
from lampforge.papers import look_two
from tests.things import (ODD, ends_of_bits, nested, own_lists, plain_bits, plain_run, refused, same_runs, some_beats,
                          some_bits, some_plan, some_work)

PASSES = {"heard": heard, "known": known, "like": like, "low": low, "agree": agree, "moved": moved}
WORK = (1, [(0, 10), (0, 10), (1, 2), (1, 10)], [(2, 4), (2, 6), (8, 11), (10, 9), (12, 1)], [18, 20, 14])


class ForgeTest(unittest.TestCase):
    def forges(self, work, text, small=True):
        before = copy.deepcopy(work)
        told = forge(work, text)
        self.assertIs(type(told), list)
        words = text.split(" ") if text else []
        self.assertEqual([row[0] for row in told], words)
        beats = some_bits(random.Random(1), work[0], 6)
        now = work
        for row in told:
            self.assertIs(type(row), tuple)
            self.assertEqual(row, (row[0],) + PASSES[row[0]](now))
            self.assertIsNone(look_two(now, row[1], row[2]))
            self.assertEqual(plain_bits(row[1], beats), plain_bits(work, beats))
            if small:
                self.assertTrue(same_runs(row[1], work))
            now = row[1]
        self.assertEqual(work, before)
        return told

    def test_no_word(self):
        self.forges(WORK, "")

    def test_each_word_alone(self):
        for word in PASSES:
            self.forges(WORK, word)

    def test_each_two_words(self):
        for words in itertools.product(PASSES, repeat=2):
            self.forges(WORK, " ".join(words))

    def test_several(self):
        self.forges(WORK, "moved known agree heard like low heard")
        self.forges(WORK, "heard " * 20 + "heard")
        rng = random.Random(2)
        for turn in range(60):
            work = some_work(rng, rng.randrange(3), rng.randrange(4), rng.randrange(8), 2)
            words = [rng.choice(list(PASSES)) for word in range(rng.randint(1, 5))]
            self.forges(work, " ".join(words), small=False)

    def test_other_texts(self):
        for text in ("Heard", "heard ", " heard", "heard  low", "heard\nlow", "heard\n", "\nheard", "heard,low", "hear", "heards",
                     " ", "  ", "\n", "heard known lik", "other", "heard other", "other heard", "heard low LOW", "heardlow",
                     "heard\tlow", "a", "known like low agree moved heard x"):
            refused(self, NoWord, {}, forge, WORK, text)

    def test_things_that_are_no_texts(self):
        for thing in ODD + (0, ["heard"], ("heard", "low")):
            if thing != "":
                refused(self, NoWord, {}, forge, WORK, thing)
                refused(self, NoWord, {}, forge, WORK, nested(thing, 2))

    def test_the_lists_are_the_askers_own(self):
        told = forge(WORK, "heard known like low agree moved heard")
        lists = own_lists(told)
        self.assertEqual(len({id(thing) for thing in lists}), len(lists))
        kept = copy.deepcopy(told)
        for thing in told[2][1][1:]:
            thing.append(None)
        self.assertEqual(told[3:], kept[3:])
        self.assertEqual(told[:2], kept[:2])

    def test_works_made_of_plans(self):
        rng = random.Random(3)
        for turn in range(40):
            plan = some_plan(rng, parts=rng.randint(1, 4), widest=3)
            work = made(plan)
            beats = some_beats(rng, plan[-1][1], 6)
            bits = [ends_of_bits(beat, plan[-1][1]) for beat in beats]
            due = [ends_of_bits(row, plan[-1][2]) for row in plain_run(plan, beats)]
            words = [rng.choice(("heard", "known", "like", "low", "agree", "moved")) for word in range(4)]
            ahead = work
            for word, new, paper in forge(work, " ".join(words)):
                self.assertEqual(plain_bits(new, bits), due)
                self.assertIsNone(look_two(ahead, new, paper))
                ahead = new


if __name__ == "__main__":
    unittest.main()
