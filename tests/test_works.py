import copy
import random
import unittest

from lampforge.beats import run
from lampforge.works import beside, is_work
from tests.things import ODD, nested, plain_bits, some_bits, some_work, swapped

# 2 ins, 3 boxes, 3 gates: knots 0, 1 2, 3 4 5, 6 7 8.
WORK = (2, [(0, 12), (1, 17), (1, 7)], [(2, 4), (3, 12), (13, 15)], [16, 1, 0, 6])
MANY = 10 ** 60


class WorkTest(unittest.TestCase):
    def right(self, thing):
        before = copy.deepcopy(thing)
        self.assertIs(is_work(thing), True, thing)
        self.assertEqual(thing, before)

    def wrong(self, thing):
        before = copy.deepcopy(thing)
        self.assertIs(is_work(thing), False, thing)
        self.assertEqual(thing, before)

    def test_works(self):
        self.right(WORK)
        self.right((0, [], [], []))
        self.right((0, [], [], [0, 1, 1]))
        self.right((MANY - 1, [], [], [2 * MANY - 1]))
        self.wrong((MANY - 1, [], [], [2 * MANY]))
        self.right((0, [(0, 0), (1, 5)], [], []))

    def test_any_thing(self):
        for thing in ODD + (0, "ins 0", (0,), (0, [], []), (0, [], [], [], []), [0, [], [], []], (0, [], [], None)):
            for deep in range(13):
                self.wrong(nested(thing, deep))
        self.wrong([WORK])
        self.wrong(list(WORK))
        self.wrong((WORK,))

    def test_other_lengths(self):
        for many in range(4):
            self.wrong(WORK[:many])
        for more in ([], None, 0):
            self.wrong(WORK + (more,))

    def test_ins(self):
        for thing in (-1, True, False, None, "2", [2], (2,), "", [], -MANY):
            self.wrong(swapped(WORK, 0, thing))
            self.wrong((thing, [], [], []))
        for many in (0, 1, 64, 65, MANY - 1):
            self.right((many, [], [], []))

    def test_tuples_for_lists_and_others(self):
        for place in (1, 2, 3):
            for thing in ((), None, 0, "", "a", True, tuple(WORK[place]), WORK):
                self.wrong(swapped(WORK, place, thing))
                self.wrong(swapped((0, [], [], []), place, thing))

    def test_boxes(self):
        for first in (0, 1):
            for end in range(18):
                self.right(swapped(WORK, 1, WORK[1][:2] + [(first, end)]))
                self.right(swapped(WORK, 1, [(first, end)] + WORK[1][:2]))
        for box in ((True, 0), (False, 0), (2, 0), (-1, 0), (None, 0), ("0", 0), (0, 18), (0, 19), (0, -1), (0, True),
                    (0, False), (0, None), (0, "1"), (0, MANY), (0,), (0, 1, 2), (), [0, 1], None, 0, "01", ((0, 1),),
                    ([0], 1), (0, [1]), (0, (1,)), (MANY, 1)):
            for place in range(3):
                boxes = list(WORK[1])
                boxes[place] = box
                self.wrong(swapped(WORK, 1, boxes))

    def test_gates(self):
        for place in range(3):
            own = 6 + place
            for end in range(-1, 19):
                for pair in ((end, 0), (0, end), (end, end)):
                    gates = [(0, 0)] * 3
                    gates[place] = pair
                    self.assertIs(is_work(swapped(WORK, 2, gates)), 0 <= end < 2 * own, (place, pair))
            for pair in ((True, 0), (0, True), (False, 0), (0, False), (0,), (0, 0, 0), (), [0, 0], None, 0, "00", (0, None),
                         (None, 0), ("0", 0), (0, "0"), (0, MANY), (MANY, 0), (-MANY, 0), ((0,), 0), (0, [0])):
                gates = [(0, 0)] * 3
                gates[place] = pair
                self.wrong(swapped(WORK, 2, gates))

    def test_a_gate_without_ins_and_boxes(self):
        self.right((0, [], [(0, 1), (2, 3)], [5]))
        self.wrong((0, [], [(0, 2)], []))
        self.wrong((0, [], [(3, 0)], []))
        self.wrong((0, [], [(4, 0), (0, 0)], []))

    def test_outs(self):
        for end in range(18):
            self.right(swapped(WORK, 3, [end]))
            self.right(swapped(WORK, 3, [0, end, end]))
        for end in (18, 19, -1, True, False, None, "0", (0,), [0], MANY, -MANY, ""):
            for place in range(4):
                outs = list(WORK[3])
                outs[place] = end
                self.wrong(swapped(WORK, 3, outs))

    def test_beyond_the_bounds(self):
        self.right((65, [(0, 0)] * 201, [(0, 1)] * 4001, [1] * 65))
        self.right(some_work(random.Random(1), 70, 300, 6000, 100))
        self.wrong((65, [(0, 0)] * 201, [(0, 1)] * 4001, [2 * (1 + 65 + 201 + 4001)]))

    def test_any_work(self):
        rng = random.Random(2)
        for turn in range(100):
            self.right(some_work(rng, rng.randrange(4), rng.randrange(4), rng.randrange(9), rng.randrange(4)))


class BesideTest(unittest.TestCase):
    def lies(self, one, other, due):
        before = copy.deepcopy((one, other))
        told = beside(one, other)
        self.assertEqual(told, due)
        self.assertTrue(is_work(told))
        for part in told[1:]:
            part.append(None)
        self.assertEqual((one, other), before)
        self.assertEqual(beside(one, other), due)

    def test_each_kind_of_end(self):
        # Knots of the one: 0, 1, 2 3, 4; of the other: 0, 1, 2, 3 4.
        one = (1, [(0, 8), (1, 3)], [(5, 7)], [0, 1, 2, 3, 4, 5, 6, 7, 8, 9])
        other = (1, [(1, 9)], [(2, 5), (6, 1)], [0, 1, 2, 3, 4, 5, 6, 7, 8, 9])
        # Together: 0, 1, boxes 2 3 and 4, gates 5 and 6 7.
        self.lies(one, other, (1, [(0, 10), (1, 3), (1, 15)], [(5, 7), (2, 9), (12, 1)],
                               [0, 1, 2, 3, 4, 5, 6, 7, 10, 11, 0, 1, 2, 3, 8, 9, 12, 13, 14, 15]))

    def test_nothing(self):
        bare = (3, [], [], [])
        self.lies(bare, bare, bare)
        work = (3, [(1, 8)], [(2, 9)], [10])
        self.lies(bare, work, work)
        self.lies(work, bare, work)

    def test_a_work_beside_itself(self):
        work = (1, [(0, 7), (1, 2)], [(4, 6), (3, 9)], [10, 5])
        self.lies(work, work, (1, [(0, 7), (1, 2), (0, 11), (1, 2)], [(4, 6), (3, 13), (8, 10), (3, 17)], [14, 5, 18, 9]))

    def test_runs_of_any_two(self):
        rng = random.Random(3)
        for turn in range(60):
            ins = rng.randrange(4)
            one = some_work(rng, ins, rng.randrange(4), rng.randrange(9), rng.randrange(4))
            other = some_work(rng, ins, rng.randrange(4), rng.randrange(9), rng.randrange(4))
            beats = some_bits(rng, ins, 6)
            both = [left + right for left, right in zip(plain_bits(one, beats), plain_bits(other, beats))]
            self.assertEqual(run(beside(one, other), beats), both)
            self.assertEqual(beside(one, other)[0], ins)


if __name__ == "__main__":
    unittest.main()
