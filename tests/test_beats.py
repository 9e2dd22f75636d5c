import copy
import itertools
import random
import time
import unittest

from lampforge.beats import beat, first_stand, run
from lampforge.many import run_many
from tests.things import plain_beat, plain_bits, some_bits, some_work


class BeatTest(unittest.TestCase):
    def beats(self, work, stand, row, due):
        before = copy.deepcopy((work, stand, row))
        told = beat(work, stand, row)
        self.assertIs(type(told), tuple)
        self.assertEqual(told, due)
        self.assertEqual([type(part) for part in told], [list, list])
        self.assertTrue(all(type(bit) is int for part in told for bit in part))
        told[0].append(9)
        told[1].append(9)
        self.assertEqual((work, stand, row), before)
        self.assertEqual(beat(work, stand, row), due)

    def test_first_stands(self):
        work = (1, [(0, 2), (1, 3), (1, 0)], [], [])
        told = first_stand(work)
        self.assertEqual(told, [0, 1, 1])
        told.append(0)
        self.assertEqual(first_stand(work), [0, 1, 1])
        self.assertEqual(first_stand((3, [], [], [2])), [])

    def test_each_gate_of_two_ins(self):
        for one, other in itertools.product(range(6), repeat=2):
            for row in itertools.product((0, 1), repeat=2):
                bits = [0, 1, row[0], 1 - row[0], row[1], 1 - row[1]]
                both = bits[one] * bits[other]
                self.beats((2, [], [(one, other)], [6, 7]), [], list(row), ([both, 1 - both], []))

    def test_ends_of_each_kind(self):
        work = (1, [(0, 7), (1, 0), (1, 1), (0, 2), (1, 5)], [(2, 4), (14, 15)], [0, 1, 2, 3, 4, 5, 14, 15, 16, 17])
        self.beats(work, [1, 0, 0, 0, 0], [1], ([0, 1, 1, 0, 1, 0, 1, 0, 0, 1], [1, 0, 1, 1, 0]))
        self.beats(work, [0, 1, 0, 0, 0], [1], ([0, 1, 1, 0, 0, 1, 0, 1, 0, 1], [0, 0, 1, 1, 1]))
        self.beats(work, [0, 1, 0, 0, 0], [0], ([0, 1, 0, 1, 0, 1, 0, 1, 0, 1], [0, 0, 1, 0, 1]))

    def test_stands_that_are_not_the_first(self):
        work = (0, [(0, 3)], [], [2])
        self.beats(work, [1], [], ([1], [0]))
        self.beats(work, [0], [], ([0], [1]))

    def test_nothing(self):
        self.beats((0, [], [], []), [], [], ([], []))
        self.beats((2, [], [], []), [], [1, 0], ([], []))

    def test_gates_on_gates(self):
        # The or, the and, the odd of two ins.
        work = (2, [], [(3, 5), (2, 4), (7, 9)], [7, 8, 10, 11])
        for one, other in itertools.product((0, 1), repeat=2):
            odd = (one + other) % 2
            self.beats(work, [], [one, other], ([max(one, other), one * other, odd, 1 - odd], []))

    def test_boxes_that_read_gates_and_one_another(self):
        work = (1, [(0, 6), (1, 4), (1, 9)], [(5, 7), (3, 11)], [10, 13])
        for bits in itertools.product((0, 1), repeat=4):
            stand, row = list(bits[:3]), [bits[3]]
            self.beats(work, stand, row, plain_beat(work, stand, row))

    def test_any_work(self):
        rng = random.Random(6)
        for turn in range(100):
            ins, boxes = rng.randrange(4), rng.randrange(4)
            work = some_work(rng, ins, boxes, rng.randrange(12), rng.randrange(5))
            stand, row = some_bits(rng, boxes, 1)[0], some_bits(rng, ins, 1)[0]
            self.beats(work, stand, row, plain_beat(work, stand, row))


class RunTest(unittest.TestCase):
    def runs(self, work, beats, due):
        before = copy.deepcopy((work, beats))
        told = run(work, beats)
        self.assertEqual(told, due)
        self.assertTrue(type(told) is list and all(type(row) is list for row in told))
        for row in told:
            row.append(9)
        told.append(9)
        self.assertEqual((work, beats), before)
        self.assertEqual(run(work, beats), due)

    def test_a_row_of_boxes(self):
        work = (1, [(1, 2), (0, 4), (1, 7)], [], [8, 9])
        self.runs(work, [[1], [0], [0], [1], [1]], [[1, 0], [1, 0], [0, 1], [0, 1], [1, 0]])

    def test_a_box_that_turns_itself(self):
        self.runs((0, [(0, 3)], [], [2, 3]), [[]] * 3, [[0, 1], [1, 0], [0, 1]])

    def test_no_beats_and_no_outs(self):
        self.runs((1, [(0, 2)], [], [4]), [], [])
        self.runs((1, [(0, 2)], [], []), [[1], [0]], [[], []])
        self.runs((0, [], [], [1, 0]), [[], []], [[1, 0], [1, 0]])

    def test_any_work(self):
        rng = random.Random(7)
        for turn in range(60):
            ins = rng.randrange(4)
            work = some_work(rng, ins, rng.randrange(5), rng.randrange(12), rng.randrange(5))
            beats = some_bits(rng, ins, rng.randrange(8))
            self.runs(work, beats, plain_bits(work, beats))

    def test_the_largest_work(self):
        work = some_work(random.Random(8), 64, 200, 4000, 64)
        beats = some_bits(random.Random(9), 64, 100)
        begun = time.perf_counter()
        told = run(work, beats)
        self.assertLess(time.perf_counter() - begun, 10)
        self.assertEqual(told[:10], plain_bits(work, beats[:10]))

    def test_four_thousand_gates_one_behind_another(self):
        work = (1, [], [(2, 1)] + [(2, 2 * knot) for knot in range(2, 4001)], [8002])
        self.runs(work, [[1], [0]], [[1], [0]])


class ManyTest(unittest.TestCase):
    def many(self, work, many, beats):
        before = copy.deepcopy((work, beats))
        told = run_many(work, many, beats)
        self.assertEqual((work, beats), before)
        self.assertTrue(type(told) is list and all(type(row) is list for row in told))
        self.assertEqual(len(told), len(beats))
        for row in told:
            self.assertEqual(len(row), len(work[3]))
            self.assertTrue(all(type(number) is int and 0 <= number < 2 ** many for number in row))
        for place in range(many):
            alone = [[number // 2 ** place % 2 for number in row] for row in beats]
            bits = [[number // 2 ** place % 2 for number in row] for row in told]
            self.assertEqual(bits, plain_bits(work, alone))
        for row in told:
            row.append(9)
        told.append(9)
        self.assertEqual(run_many(work, many, beats), [row[:-1] for row in told[:-1]])

    def test_turned_ends(self):
        work = (1, [(1, 3), (0, 0)], [(3, 5)], [0, 1, 2, 3, 4, 5, 6, 7, 8, 9])
        for many in (1, 2, 3, 63, 64):
            self.many(work, many, [[0], [2 ** many - 1], [5 % 2 ** many], [2 ** (many - 1)]])
        self.assertEqual(run_many(work, 2, [[1]]), [[0, 3, 1, 2, 3, 0, 0, 3, 0, 3]])

    def test_no_beats_no_ins(self):
        self.many((1, [], [], [2]), 64, [])
        self.many((0, [(0, 3), (1, 2)], [], [2, 5]), 64, [[], [], []])
        self.many((0, [], [], []), 1, [[], []])

    def test_any_work(self):
        rng = random.Random(10)
        for turn in range(40):
            ins, many = rng.randrange(4), rng.choice((1, 2, 5, 64))
            work = some_work(rng, ins, rng.randrange(5), rng.randrange(12), rng.randrange(5))
            self.many(work, many, [[rng.randrange(2 ** many) for place in range(ins)] for row in range(rng.randrange(5))])

    def test_the_largest_work(self):
        rng = random.Random(12)
        work = some_work(rng, 64, 200, 4000, 64)
        beats = [[rng.randrange(2 ** 64) for place in range(64)] for row in range(20)]
        begun = time.perf_counter()
        told = run_many(work, 64, beats)
        self.assertLess(time.perf_counter() - begun, 10)
        alone = [[number // 2 ** 63 for number in row] for row in beats]
        self.assertEqual([[number // 2 ** 63 for number in row] for row in told], plain_bits(work, alone))


if __name__ == "__main__":
    unittest.main()
