import itertools
import random
import time
import unittest

from lampforge.like import like
from lampforge.papers import look_two
from tests.test_known import is_known
from tests.things import check_pass, plain_beat, plain_bits, some_bits, some_work


def is_unlike(case, new):
    """Whether over all stands no gate has the bits of another knot, or the other ones."""
    ins, boxes = new[0], len(new[1])
    knots = 1 + ins + boxes + len(new[2])
    asked = (ins, new[1], new[2], [2 * knot for knot in range(knots)])
    stands = list(itertools.product((0, 1), repeat=ins + boxes))
    bits = list(zip(*[plain_beat(asked, stand[ins:], stand[:ins])[0] for stand in stands]))
    seen = set(bits[:1 + ins + boxes]) | {tuple(1 - bit for bit in row) for row in bits[:1 + ins + boxes]}
    for row in bits[1 + ins + boxes:]:
        case.assertNotIn(row, seen, new)
        seen.update((row, tuple(1 - bit for bit in row)))


class LikeTest(unittest.TestCase):
    def likes(self, work, gates=None):
        new = check_pass(self, like, work, some_bits(random.Random(1), work[0], 6))
        is_known(self, work, new)
        if work[0] + len(work[1]) <= 6:
            is_unlike(self, new)
        if gates is not None:
            self.assertEqual(len(new[2]), gates)
        return new

    def test_what_is_asked_of_known(self):
        for one, other in itertools.product(range(8), repeat=2):
            self.likes((2, [(0, 8)], [(one, other)], [8, 9, 6]), 1 if one > 1 and other > 1 and one // 2 != other // 2 else 0)
        self.likes((2, [], [(2, 4), (4, 2), (6, 8), (10, 1), (12, 0)], [14, 12, 8]), 1)

    def test_alike_by_several_gates(self):
        # Ins 1 2 3; (1 and 2) and 3, 1 and (2 and 3).
        self.likes((3, [], [(2, 4), (8, 6), (4, 6), (2, 12)], [10, 14]), 3)
        # The odd of two ins by two ways.
        self.likes((2, [], [(2, 4), (3, 5), (7, 9), (2, 5), (3, 4), (13, 15)], [10, 17]))
        self.likes((2, [], [(2, 4), (3, 5), (7, 9), (2, 5), (3, 4), (13, 15)], [10, 12, 14, 16]))

    def test_always_the_same_bit(self):
        # (1 and 2) and not 1 is low; not ((1 and 2) and not 1) and 3 is 3.
        self.likes((3, [], [(2, 4), (8, 3), (11, 6)], [10, 12]), 1)
        self.likes((2, [], [(2, 4), (6, 3), (9, 5)], [8, 10]), 1)
        self.likes((1, [(0, 6), (1, 4)], [(4, 6), (8, 5), (11, 3)], [10, 12]))

    def test_the_bit_of_an_in_or_a_box(self):
        # not (1 and not 2) and 1 is (1 and 2); not (not 1 and not 2) and (1 or not 2) is 1.
        self.likes((2, [], [(2, 5), (7, 2), (2, 4)], [8, 10]), 2)
        self.likes((1, [(1, 11)], [(3, 5), (3, 4), (7, 9)], [10, 11]))
        self.likes((0, [(1, 11), (0, 3)], [(3, 5), (3, 4), (7, 9)], [10, 11]))

    def test_the_other_bit(self):
        # not (1 and 2) by one gate, and by (not 1) or (1 and not 2).
        self.likes((2, [], [(2, 4), (2, 5), (2, 9), (11, 3)], [7, 10, 12]))
        # The contrary of a box: not (b and 1) and not (b and not 1).
        self.likes((1, [(0, 10)], [(4, 2), (4, 3), (7, 9)], [10]), 2)
        self.likes((1, [(0, 10)], [(4, 2), (4, 3), (7, 9), (11, 2), (10, 3)], [12, 14]))

    def test_no_ins_and_no_boxes(self):
        self.likes((0, [], [], []), 0)
        self.likes((0, [], [(0, 1), (1, 1), (3, 4), (5, 7)], [8, 2, 4, 6]), 0)

    def test_one_in_or_box(self):
        for work in ((1, [], [(2, 3), (2, 2), (5, 6), (3, 9)], [10, 8, 4]), (0, [(1, 8)], [(2, 3), (5, 3), (6, 3)], [8, 7])):
            self.likes(work, 0)

    def test_any_small_work(self):
        rng = random.Random(2)
        for turn in range(300):
            ins = rng.randrange(5)
            boxes = rng.randrange(min(5, 7 - ins))
            self.likes(some_work(rng, ins, boxes, rng.randrange(16), rng.randrange(4), rng.choice((None, 4, 8))))

    def test_six_in_all(self):
        rng = random.Random(3)
        for turn in range(25):
            ins = rng.randrange(7)
            work = some_work(rng, ins, 6 - ins, rng.randrange(60), 3, rng.choice((None, 8)))
            new, paper = like(work)
            self.assertIsNone(look_two(work, new, paper))
            is_known(self, work, new)
            is_unlike(self, new)

    def test_seven_and_more(self):
        rng = random.Random(4)
        for turn in range(25):
            ins = rng.randrange(5)
            work = some_work(rng, ins, 7 - ins + rng.randrange(2), rng.randrange(20), 3, rng.choice((None, 8)))
            new = check_pass(self, like, work, some_bits(rng, ins, 6), small=ins < 3)
            is_known(self, work, new)

    def test_the_largest_works(self):
        rng = random.Random(5)
        for work in (some_work(rng, 64, 200, 4000, 64), some_work(rng, 64, 200, 4000, 64, 60),
                     some_work(rng, 4, 2, 4000, 64), some_work(rng, 4, 2, 4000, 64, 60)):
            begun = time.perf_counter()
            new, paper = like(work)
            self.assertIsNone(look_two(work, new, paper))
            self.assertLess(time.perf_counter() - begun, 20)
            is_known(self, work, new)
            beats = some_bits(rng, work[0], 4)
            self.assertEqual(plain_bits(new, beats), plain_bits(work, beats))


if __name__ == "__main__":
    unittest.main()
