import random
import time
import unittest

from lampforge.agree import agree
from lampforge.papers import look_two
from tests.things import check_pass, plain_bits, some_bits, some_work


def is_agreed(case, work, new):
    case.assertLessEqual(len(new[1]), len(work[1]))
    case.assertLessEqual(len(new[2]), len(work[2]))
    for place, (first, end) in enumerate(new[1]):
        case.assertNotEqual(end, 2 * (1 + new[0] + place), work)
        case.assertNotEqual(end, first, work)
    case.assertEqual(len(set(new[1])), len(new[1]), work)


class AgreeTest(unittest.TestCase):
    def agrees(self, work, boxes=None, small=True):
        new = check_pass(self, agree, work, some_bits(random.Random(1), work[0], 8), small)
        is_agreed(self, work, new)
        if boxes is not None:
            self.assertEqual(len(new[1]), boxes)
        return new

    def test_nothing(self):
        for work in ((0, [], [], []), (2, [], [(2, 4)], [6, 7]), (1, [(0, 2)], [], [4])):
            self.agrees(work, len(work[1]))

    def test_boxes_with_their_own_end(self):
        for first in (0, 1):
            self.agrees((0, [(first, 2)], [], [2, 3]), 0)
            self.agrees((1, [(0, 2), (first, 6)], [(4, 6), (5, 7)], [8, 10]), 1)
            # Its contrary: it goes on turning.
            self.agrees((0, [(first, 3)], [], [2, 3]), 1)

    def test_boxes_with_the_known_end_of_their_first(self):
        for first in (0, 1):
            self.agrees((0, [(first, first)], [], [2, 3]), 0)
            self.agrees((0, [(first, 1 - first)], [], [2, 3]), 1)
            self.agrees((1, [(first, first), (1, 8), (0, 2)], [(4, 6), (5, 3)], [10, 6, 12]))

    def test_like_firsts_and_the_same_end(self):
        for first in (0, 1):
            self.agrees((1, [(first, 2), (first, 2)], [], [4, 6]), 1)
            self.agrees((1, [(first, 2), (1 - first, 2)], [], [4, 6]), 2)
            self.agrees((1, [(first, 3), (0, 4), (first, 3), (1, 2), (first, 3)], [], [4, 8, 12, 6, 10]))

    def test_contrary_boxes(self):
        # The first one's contrary at each beat.
        new = self.agrees((1, [(0, 2), (1, 3)], [], [4, 6]))
        self.assertLessEqual(len(new[1]), 2)
        self.agrees((0, [(0, 3), (1, 5)], [], [2, 4]))
        self.agrees((1, [(0, 8), (1, 11)], [(2, 5), (2, 7)], [4, 6]))

    def test_that_comes_only_of_others_made_one(self):
        # Boxes 2 3 are one; so 4 5 are, and so 6 7 are.
        work = (1, [(0, 2), (0, 2), (1, 4), (1, 6), (0, 9), (0, 11)], [], [12, 14, 8, 11])
        self.agrees(work, 3)
        # The same through gates.
        work = (2, [(0, 2), (0, 2), (1, 14), (1, 16)], [(4, 6), (4, 8), (12, 5)], [10, 12, 18])
        self.agrees(work)
        # Box 2 is low for ever, so box 3 is, which gets what box 2 has, and so is the gate that drives box 4.
        work = (1, [(0, 4), (0, 4), (0, 14), (1, 9), (1, 8)], [(2, 6)], [10, 8, 12, 14])
        self.agrees(work, 1)

    def test_boxes_that_hear_one_another_and_never_change(self):
        new = self.agrees((0, [(0, 4), (0, 6), (0, 2)], [], [2, 4, 6]))
        self.assertLessEqual(len(new[1]), 3)
        self.agrees((0, [(0, 4), (0, 2)], [(2, 5)], [6]))
        self.agrees((0, [(0, 4), (1, 2)], [], [2, 4]))

    def test_two_counters(self):
        # Two like counters of two bits each, the second with turned boxes.
        def gates(low, high, first, step):
            return [(low, step), (low ^ 1, step ^ 1), (first + 1, first + 3),
                    (high, first), (high ^ 1, first ^ 1), (first + 7, first + 9)]
        one = gates(4, 6, 12, 2)
        two = gates(8, 10, 24, 2)
        work = (1, [(0, 17), (0, 23), (0, 29), (0, 35)], one + two, [4, 6, 8, 10])
        self.agrees(work)

    def test_any_work(self):
        rng = random.Random(2)
        for turn in range(300):
            ins = rng.randrange(3)
            self.agrees(some_work(rng, ins, rng.randrange(7), rng.randrange(8), rng.randrange(4), rng.choice((None, 5))))

    def test_any_work_of_few_gates(self):
        rng = random.Random(3)
        for turn in range(300):
            ins, boxes, gates = rng.randrange(2), rng.randint(2, 7), rng.randrange(3)
            knots = 1 + ins + boxes + gates
            work = some_work(rng, ins, boxes, gates, 3)
            near = [(rng.randrange(2), rng.randrange(min(2 * knots, 8))) for box in range(boxes)]
            self.agrees((ins, near, work[2], work[3]))

    def test_the_largest_works(self):
        rng = random.Random(4)
        first = 1 + 64
        row = (64, [(0, 2)] + [(0, 2 * (first + at)) for at in range(199)],
               [(2 * (first + at % 200), 2 * (1 + at % 64)) for at in range(4000)], [2 * (64 + 200), 2 * (64 + 200 + 4000)])
        for work in (some_work(rng, 64, 200, 4000, 64), some_work(rng, 64, 200, 4000, 64, 60), row):
            begun = time.perf_counter()
            new, paper = agree(work)
            self.assertIsNone(look_two(work, new, paper))
            self.assertLess(time.perf_counter() - begun, 30)
            is_agreed(self, work, new)
            beats = some_bits(rng, 64, 4)
            self.assertEqual(plain_bits(new, beats), plain_bits(work, beats))


if __name__ == "__main__":
    unittest.main()
