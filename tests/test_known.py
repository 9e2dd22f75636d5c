import itertools
import random
import time
import unittest

from lampforge.known import known
from lampforge.papers import look_two
from tests.things import check_pass, plain_bits, some_bits, some_work


def is_known(case, work, new):
    """What is asked of known and of like."""
    case.assertEqual([first for first, end in new[1]], [first for first, end in work[1]])
    case.assertLessEqual(len(new[2]), len(work[2]))
    for one, other in new[2]:
        case.assertNotIn(0, (one // 2, other // 2))
        case.assertNotEqual(one // 2, other // 2)
    case.assertEqual(len({tuple(sorted(gate)) for gate in new[2]}), len(new[2]))


class KnownTest(unittest.TestCase):
    def knows(self, work, gates=None):
        new = check_pass(self, known, work, some_bits(random.Random(1), work[0], 6))
        is_known(self, work, new)
        if gates is not None:
            self.assertEqual(len(new[2]), gates)
        return new

    def test_each_gate_of_few_ends(self):
        for one, other in itertools.product(range(8), repeat=2):
            due = 1 if one > 1 and other > 1 and one // 2 != other // 2 else 0
            self.knows((2, [(0, 8)], [(one, other)], [8, 9, 6]), due)

    def test_two_gates_with_the_same_ends(self):
        for one, other in itertools.product(range(2, 6), repeat=2):
            if one // 2 != other // 2:
                self.knows((2, [], [(one, other), (other, one)], [6, 8]), 1)
                self.knows((2, [], [(one, other), (one, other)], [6, 9]), 1)
                self.knows((2, [], [(one, other), (one ^ 1, other)], [6, 8]), 2)

    def test_chains(self):
        # Each gate is the one ahead and 1, or itself twice, or two of a kind.
        self.knows((2, [], [(2, 4), (6, 1), (8, 8), (10, 6), (12, 7)], [12, 14, 10]), 1)
        self.knows((2, [], [(2, 4), (4, 2), (6, 3), (3, 8), (10, 13)], [14, 12]), 2)
        self.knows((1, [(0, 6)], [(2, 0), (7, 4), (9, 2), (10, 8), (11, 12)], [14]))

    def test_boxes_stay(self):
        new = self.knows((1, [(0, 0), (1, 1), (0, 6), (1, 10), (1, 10)], [(2, 0)], [14]), 0)
        self.assertEqual(new[1], [(0, 0), (1, 1), (0, 6), (1, 10), (1, 10)])
        self.knows((1, [(0, 0), (1, 14), (1, 14), (0, 15)], [(2, 4), (2, 4), (1, 6)], [12, 14]))

    def test_nothing(self):
        for work in ((0, [], [], []), (3, [], [], [2, 3, 0]), (0, [(1, 3)], [], [2]), (0, [], [(0, 1), (1, 1)], [5, 2])):
            self.knows(work, 0)

    def test_gates_that_need_not_go(self):
        work = (3, [], [(2, 4), (3, 4), (4, 6), (8, 11)], [14])
        self.assertLessEqual(len(self.knows(work)[2]), 4)

    def test_any_work(self):
        rng = random.Random(2)
        for turn in range(250):
            ins = rng.randrange(4)
            self.knows(some_work(rng, ins, rng.randrange(5), rng.randrange(12), rng.randrange(4)))

    def test_the_largest_works(self):
        rng = random.Random(3)
        chain = (64, [(0, 2 * (1 + 64 + at)) for at in range(200)],
                 [(2, 4)] + [(2 * (1 + 64 + 200 + at), 3) for at in range(3999)], [2 * (64 + 200 + 4000)])
        for work in (some_work(rng, 64, 200, 4000, 64), some_work(rng, 64, 200, 4000, 64, 60), chain):
            begun = time.perf_counter()
            new, paper = known(work)
            self.assertIsNone(look_two(work, new, paper))
            self.assertLess(time.perf_counter() - begun, 20)
            is_known(self, work, new)
            beats = some_bits(rng, 64, 4)
            self.assertEqual(plain_bits(new, beats), plain_bits(work, beats))


if __name__ == "__main__":
    unittest.main()
