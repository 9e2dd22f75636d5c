import copy
import itertools
import random
import unittest

from lampforge.nets import next_net, now_end, now_net, start_end, start_net, then_end
from lampforge.works import is_work
from tests.things import plain_beat, some_bits, some_work

# Knots 0, ins 1 2, boxes 3 4 5 6, gates 7 8 9.
WORK = (2, [(0, 15), (1, 6), (1, 2), (0, 1)], [(2, 7), (14, 9), (17, 1)], [18])


def bit_in_net(net, leaves, end):
    """The bit of an end of a net, the leaves having bits."""
    ends = (net[0], [], net[1], [end])
    return plain_beat(ends, [], leaves)[0][0]


class NetTest(unittest.TestCase):
    def is_net(self, net, leaves, gates):
        self.assertIs(type(net), tuple)
        self.assertEqual(len(net), 2)
        self.assertEqual((net[0], len(net[1])), (leaves, gates))
        self.assertTrue(is_work((net[0], [], net[1], [])))

    def test_the_now_net(self):
        self.assertEqual(now_net(WORK), (6, [(2, 7), (14, 9), (17, 1)]))
        self.assertEqual(now_net((3, [], [], [2])), (3, []))
        told = now_net(WORK)
        told[1].append(None)
        self.assertEqual(WORK[2], [(2, 7), (14, 9), (17, 1)])
        self.assertEqual(now_net(WORK), (6, [(2, 7), (14, 9), (17, 1)]))

    def test_the_start_net(self):
        # Leaves 1 2, gates 3 4 5; boxes are 0, 1, 1, 0.
        self.assertEqual(start_net(WORK), (2, [(2, 1), (6, 0), (9, 1)]))
        self.assertEqual([start_end(WORK, end) for end in range(20)],
                         [0, 1, 2, 3, 4, 5, 0, 1, 1, 0, 1, 0, 0, 1, 6, 7, 8, 9, 10, 11])

    def test_the_next_net(self):
        # Leaves 1 2 and 3 4 5 6 and 7 8, gates 9 10 11, then 12 13 14.
        self.assertEqual([now_end(WORK, end) for end in range(20)], list(range(14)) + [18, 19, 20, 21, 22, 23])
        self.assertEqual([then_end(WORK, end) for end in range(20)],
                         [0, 1, 14, 15, 16, 17, 19, 18, 6, 7, 2, 3, 1, 0, 24, 25, 26, 27, 28, 29])
        self.assertEqual(next_net(WORK), (8, [(2, 7), (18, 9), (21, 1), (14, 18), (24, 7), (27, 1)]))

    def test_the_lists_are_the_askers_own(self):
        for ask in (now_net, start_net, next_net):
            first = ask(WORK)
            kept = copy.deepcopy(first)
            first[1].clear()
            self.assertEqual(ask(WORK), kept)
            self.assertEqual(len(WORK[2]), 3)

    def test_nothing(self):
        bare = (0, [], [], [])
        self.assertEqual((now_net(bare), start_net(bare), next_net(bare)), ((0, []), (0, []), (0, [])))
        for end in (0, 1):
            self.assertEqual([ask(bare, end) for ask in (start_end, now_end, then_end)], [end] * 3)

    def test_no_ins_no_boxes_no_gates(self):
        for work in ((0, [(1, 3), (0, 6)], [(2, 5)], []), (2, [], [(3, 4), (6, 6)], []), (1, [(0, 4), (1, 3)], [], [])):
            ins, boxes, gates = work[0], len(work[1]), len(work[2])
            self.is_net(now_net(work), ins + boxes, gates)
            self.is_net(start_net(work), ins, gates)
            self.is_net(next_net(work), 2 * ins + boxes, 2 * gates)

    def test_contrary_ends_stay_contrary(self):
        rng = random.Random(1)
        for turn in range(30):
            work = some_work(rng, rng.randrange(4), rng.randrange(4), rng.randrange(6), 0)
            for knot in range(1 + work[0] + len(work[1]) + len(work[2])):
                for ask in (start_end, now_end, then_end):
                    self.assertEqual(ask(work, 2 * knot) ^ 1, ask(work, 2 * knot + 1))

    def test_nets_against_runs(self):
        rng = random.Random(2)
        works = [some_work(rng, rng.randrange(4), rng.randrange(4), rng.randrange(8), 0) for turn in range(25)]
        for work in works + [WORK]:
            before = copy.deepcopy(work)
            ins, boxes, gates = work[0], len(work[1]), len(work[2])
            every = list(range(2 * (1 + ins + boxes + gates)))
            asked = (ins, work[1], work[2], every)
            self.is_net(now_net(work), ins + boxes, gates)
            self.is_net(start_net(work), ins, gates)
            self.is_net(next_net(work), 2 * ins + boxes, 2 * gates)
            for turn in range(6):
                stand, row, later = (some_bits(rng, many, 1)[0] for many in (boxes, ins, ins))
                told, after = plain_beat(asked, stand, row)
                self.assertEqual([bit_in_net(now_net(work), row + stand, end) for end in every], told)
                then = plain_beat(asked, after, later)[0]
                leaves = row + stand + later
                self.assertEqual([bit_in_net(next_net(work), leaves, now_end(work, end)) for end in every], told)
                self.assertEqual([bit_in_net(next_net(work), leaves, then_end(work, end)) for end in every], then)
                start = plain_beat(asked, [first for first, end in work[1]], row)[0]
                self.assertEqual([bit_in_net(start_net(work), row, start_end(work, end)) for end in every], start)
            self.assertEqual(work, before)

    def test_boxes_driven_by_each_kind_of_end(self):
        for first, end in itertools.product((0, 1), range(10)):
            # Knots 0, in 1, boxes 2 3, gate 4.
            work = (1, [(first, end), (1, 0)], [(2, 5)], [])
            self.assertEqual(start_end(work, 4), first)
            self.assertEqual(start_end(work, 5), 1 - first)
            self.assertEqual(then_end(work, 4), end if end < 8 else end + 2)
            self.assertEqual(then_end(work, 5), (end if end < 8 else end + 2) ^ 1)


if __name__ == "__main__":
    unittest.main()
