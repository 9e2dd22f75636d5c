import random
import time
import unittest

from lampforge.heard import heard
from lampforge.papers import look_two
from tests.things import check_pass, plain_bits, some_bits, some_work


class HeardTest(unittest.TestCase):
    def hears(self, work, due):
        beats = some_bits(random.Random(1), work[0], 5)
        self.assertEqual(check_pass(self, heard, work, beats), due)

    def test_nothing(self):
        self.hears((0, [], [], []), (0, [], [], []))
        self.hears((2, [(1, 4)], [(2, 6)], []), (2, [], [], []))

    def test_outs_of_ins_and_known_ends(self):
        self.hears((2, [(1, 4)], [(2, 6)], [0, 1, 2, 5]), (2, [], [], [0, 1, 2, 5]))

    def test_all_heard(self):
        work = (1, [(1, 8), (0, 5)], [(2, 6), (9, 4)], [10, 11])
        self.hears(work, work)

    def test_gates(self):
        # Knots 1 2 ins, 3 4 5 6 gates: 4 and 6 are heard, 3 by 6.
        self.hears((2, [], [(2, 4), (3, 4), (2, 5), (6, 9)], [8, 13]), (2, [], [(2, 4), (3, 4), (6, 9)], [8, 11]))
        self.hears((2, [], [(2, 4), (3, 4), (2, 5), (6, 9)], [8]), (2, [], [(3, 4)], [6]))
        self.hears((1, [], [(2, 2), (4, 4), (6, 6)], [7]), (1, [], [(2, 2), (4, 4)], [7]))

    def test_gates_with_known_ends_stay(self):
        self.hears((1, [], [(0, 1), (2, 2), (2, 3), (1, 8), (4, 6)], [10, 12]),
                   (1, [], [(0, 1), (2, 2), (2, 3), (1, 8), (4, 6)], [10, 12]))

    def test_boxes(self):
        # Boxes 2 3 4 5: 2 hears 4 by a gate, 4 hears itself; 3 and 5 hear one another and are not heard.
        work = (1, [(1, 13), (0, 10), (1, 9), (0, 6)], [(2, 8), (6, 10)], [4])
        self.hears(work, (1, [(1, 9), (1, 7)], [(2, 6)], [4]))

    def test_boxes_that_hear_one_another(self):
        work = (0, [(0, 4), (1, 6), (0, 3), (1, 8)], [], [7])
        self.hears(work, (0, [(0, 4), (1, 6), (0, 3)], [], [7]))
        self.hears((0, [(0, 4), (1, 6), (0, 3), (1, 8)], [], [9]), (0, [(1, 2)], [], [3]))

    def test_gates_behind_boxes_behind_gates(self):
        work = (2, [(0, 12), (1, 10), (0, 0)], [(2, 4), (3, 8), (8, 10), (2, 2)], [7])
        # Knots: ins 1 2, boxes 3 4 5, gates 6 7 8 9; out 7 is box 3, which hears gate 6 alone.
        self.hears(work, (2, [(0, 8)], [(2, 4)], [7]))
        # Out of gate 7, which hears box 4, which hears box 5.
        self.hears((2, work[1], work[2], [14]), (2, [(1, 8), (0, 0)], [(3, 6)], [10]))

    def test_any_work(self):
        rng = random.Random(2)
        for turn in range(250):
            ins = rng.randrange(4)
            work = some_work(rng, ins, rng.randrange(5), rng.randrange(10), rng.randrange(4))
            new = check_pass(self, heard, work, some_bits(rng, ins, 6))
            kept = self.kept(work)
            first = 1 + ins
            boxes = [knot for knot in kept if first <= knot < first + len(work[1])]
            gates = [knot for knot in kept if knot >= first + len(work[1])]
            place = {knot: knot for knot in range(first)}
            place.update({knot: first + at for at, knot in enumerate(boxes + gates)})

            def moved(end):
                return 2 * place[end // 2] + end % 2
            self.assertEqual(new, (ins, [(work[1][knot - first][0], moved(work[1][knot - first][1])) for knot in boxes],
                                   [tuple(moved(end) for end in work[2][knot - first - len(work[1])]) for knot in gates],
                                   [moved(end) for end in work[3]]))

    def kept(self, work):
        """The knots of heard boxes and gates, by going on until nothing is added."""
        first = 1 + work[0]
        ends = [(end,) for bit, end in work[1]] + list(work[2])
        kept = {end // 2 for end in work[3]}
        while True:
            more = kept | {end // 2 for knot in kept if knot >= first for end in ends[knot - first]}
            if more == kept:
                return sorted(kept)
            kept = more

    def test_the_largest_works(self):
        rng = random.Random(3)
        chain = (64, [(0, 2 * (1 + 64 + at)) for at in range(200)],
                 [(2, 4)] + [(2 * (1 + 64 + 200 + at), 3) for at in range(3999)], [2 * (64 + 200 + 4000), 2 * (64 + 200)])
        for work in (some_work(rng, 64, 200, 4000, 64), some_work(rng, 64, 200, 4000, 64, 60), chain):
            begun = time.perf_counter()
            new, paper = heard(work)
            self.assertIsNone(look_two(work, new, paper))
            self.assertLess(time.perf_counter() - begun, 20)
            beats = some_bits(rng, 64, 4)
            self.assertEqual(plain_bits(new, beats), plain_bits(work, beats))


if __name__ == "__main__":
    unittest.main()
