import random
import time
import unittest

from lampforge.low import low
from lampforge.papers import look_two
from tests.things import check_pass, plain_bits, some_bits, some_work


def depths_of(work):
    deep = [0] * (1 + work[0] + len(work[1]))
    for one, other in work[2]:
        deep.append(1 + max(deep[one // 2], deep[other // 2]))
    return deep


def ends_under(work, knot):
    """The ends under the row of a gate, as the document says it."""
    first = 1 + work[0] + len(work[1])
    places = [end for gate in work[2] for end in gate] + [end for bit, end in work[1]] + list(work[3])
    own = [[] for place in range(first + len(work[2]))]
    for end in places:
        own[end // 2].append(end)
    held = {end // 2 for bit, end in work[1]} | {end // 2 for end in work[3]}
    row, under = [knot], []
    for gate in row:
        for end in work[2][gate - first]:
            alone = end % 2 == 0 and end // 2 >= first and len(own[end // 2]) == 1 and end // 2 not in held
            (row if alone else under).append(end // 2 if alone else end)
    return under


def is_low(case, work, new):
    case.assertEqual([first for first, end in new[1]], [first for first, end in work[1]])
    case.assertLessEqual(len(new[2]), len(work[2]))
    deep, before = depths_of(new), depths_of(work)
    ends = [end for bit, end in new[1]] + list(new[3])
    olds = [end for bit, end in work[1]] + list(work[3])
    for end, old in zip(ends, olds):
        case.assertLessEqual(deep[end // 2], before[old // 2], work)
    first = 1 + new[0] + len(new[1])
    for knot in sorted({end // 2 for end in ends if end // 2 >= first}):
        under = ends_under(new, knot)
        if len(under) <= 64:
            total = sum(2 ** deep[end // 2] for end in under)
            least = 0
            while 2 ** least < total:
                least += 1
            case.assertEqual(deep[knot], least, work)


def chained(ends, ins, boxes=0, start=0):
    """Gates that bind ends one behind another, the first gate being the one of number `start`."""
    first = 1 + ins + boxes + start
    return [(ends[0], ends[1])] + [(2 * (first + at), end) for at, end in enumerate(ends[2:])]


class LowTest(unittest.TestCase):
    def lows(self, work, small=True):
        new = check_pass(self, low, work, some_bits(random.Random(1), work[0], 4), small)
        is_low(self, work, new)
        return new

    def depth(self, work, due, small=True):
        """The depth of the first out's gate."""
        new = self.lows(work, small)
        self.assertEqual(depths_of(new)[new[3][0] // 2], due)
        return new

    def test_nothing(self):
        for work in ((0, [], [], []), (2, [(1, 3)], [], [2, 7, 0]), (1, [], [(2, 2)], [])):
            self.lows(work)

    def test_rows_of_ins(self):
        for many in (2, 3, 4, 5, 7, 8, 9, 16, 17, 31, 32, 33, 63, 64):
            ends = [2 * knot for knot in range(1, many + 1)]
            due = (many - 1).bit_length()
            self.depth((many, [], chained(ends, many), [2 * (2 * many - 1)]), due, many < 6)
            self.depth((many, [], chained([end ^ 1 for end in ends], many), [2 * (2 * many - 1) + 1]), due, many < 6)

    def test_longer_rows(self):
        for many in (65, 66, 100, 130):
            ends = [2 * (1 + at % 64) for at in range(many)]
            work = (64, [], chained(ends, 64), [2 * (64 + many - 1)])
            self.lows(work, False)
        # Of ends that are all unlike: ins and boxes.
        for many in (64, 65, 66, 100):
            ends = [2 * knot for knot in range(1, many + 1)]
            new = self.lows((60, [(1, 3)] * (many - 60), chained(ends, 60, many - 60), [2 * (2 * many - 1)]), False)
            if many == 64:
                self.assertEqual(depths_of(new)[new[3][0] // 2], 6)
        # Such a row over one that can be made lower.
        ends = [2 * knot for knot in range(1, 9)]
        gates = chained(ends, 8)
        more = [15] + [2 * (1 + at % 8) for at in range(70)]
        gates += [(2 * 15 + 1, more[1])] + [(2 * (16 + at), end) for at, end in enumerate(more[2:])]
        new = self.lows((8, [], gates, [2 * (8 + len(gates)), 2 * 15]), False)
        self.assertEqual(depths_of(new)[new[3][1] // 2], 3)

    def test_rows_over_deeper_ends(self):
        # An end of depth 3 and three ins: 8 + 1 + 1 + 1, so 4.
        deep = [(2, 5), (13, 3), (15, 4)]
        gates = deep + [(17, 2), (18, 6), (20, 8)]
        self.depth((5, [], gates[:3] + [(2, 4), (18, 6), (20, 17)], [22]), 4)
        self.depth((5, [], gates, [22]), 4)

    def test_a_gate_that_stands_twice_ends_the_row(self):
        # Gate 5 is the and of ins 1 2 3; it stands in two gates.
        work = (4, [], [(2, 4), (10, 6), (12, 8), (12, 9)], [14, 16])
        new = self.lows(work)
        self.assertEqual(depths_of(new)[new[3][0] // 2], 3)
        self.assertEqual(len(ends_under(new, new[3][0] // 2)), 2)
        # Twice in one gate.
        self.lows((4, [], [(2, 4), (10, 6), (12, 12), (14, 8)], [16]))
        self.lows((4, [], [(2, 4), (10, 6), (12, 13), (14, 8)], [16]))

    def test_gates_in_a_box_or_an_out_end_the_row(self):
        self.depth((4, [], [(2, 4), (10, 6), (12, 8)], [14, 12]), 3)
        self.depth((4, [], [(2, 4), (10, 6), (12, 8)], [14, 10]), 2)
        self.depth((4, [], [(2, 4), (10, 6), (12, 8)], [14]), 2)
        self.depth((4, [(0, 14)], [(2, 4), (12, 6), (14, 8)], [16]), 3)
        self.depth((4, [(1, 15)], [(2, 4), (12, 6), (14, 8)], [16]), 3)
        self.depth((4, [(1, 16)], [(2, 4), (12, 6), (14, 8)], [16]), 2)

    def test_turned_ends_end_the_row(self):
        self.depth((4, [], [(2, 4), (11, 6), (12, 8)], [14]), 2)
        self.depth((4, [], [(2, 4), (10, 6), (13, 8)], [14]), 3)
        # 1 + 1 + 2 comes to 4.
        new = self.depth((4, [], [(2, 4), (11, 6), (12, 8), (14, 2), (16, 4)], [19]), 3)
        self.assertEqual(len(ends_under(new, new[3][0] // 2)), 5)

    def test_a_gate_that_nothing_hears_is_a_place_too(self):
        work = (4, [], [(2, 4), (10, 6), (12, 8), (12, 3)], [14])
        self.lows(work)

    def test_ends_that_stand_twice_or_with_their_contrary(self):
        self.lows((3, [], chained([2, 4, 2, 6, 4, 2], 3), [16]))
        self.lows((3, [], chained([2, 4, 3, 6], 3), [12]))
        self.lows((3, [], chained([2, 2, 2, 2, 2], 3), [14, 15]))
        self.lows((3, [], chained([2, 3, 4, 5, 6, 7], 3), [16]))
        self.lows((3, [], chained([0, 2, 1, 4, 1], 3), [14]))
        self.lows((3, [], chained([1, 1, 1, 1, 1], 3), [14]))
        self.lows((3, [], chained([1, 2, 1, 4, 6, 1], 3), [16]))

    def test_boxes(self):
        gates = chained([2, 4, 6, 8, 10], 2, 3)
        self.lows((2, [(1, 18), (0, 17), (1, 14)], gates, [18]))
        self.lows((2, [(1, 18), (0, 18), (1, 19)], gates, []))
        new = self.lows((2, [(1, 18), (0, 4), (1, 2)], gates, []))
        self.assertEqual(depths_of(new)[new[1][0][1] // 2], 3)

    def test_any_work(self):
        rng = random.Random(2)
        for turn in range(250):
            ins = rng.randrange(4)
            self.lows(some_work(rng, ins, rng.randrange(4), rng.randrange(16), rng.randrange(4), rng.choice((None, 3, 4))))

    def test_any_long_work(self):
        rng = random.Random(3)
        for turn in range(40):
            self.lows(some_work(rng, 8, 8, 80, 3, rng.choice((2, 3, 5))), False)

    def test_trees_of_rows(self):
        rng = random.Random(4)
        for turn in range(40):
            gates, ready = [], [2 * knot + rng.randrange(2) for knot in range(1, 13)]
            while len(ready) > 1 and len(gates) < 60:
                one = ready.pop(rng.randrange(min(len(ready), rng.choice((1, 2, 12)))))
                other = ready.pop(rng.randrange(len(ready)))
                gates.append((one, other))
                ready.insert(0, 2 * (12 + len(gates)) + (rng.random() < 0.2))
                if rng.random() < 0.4:
                    ready.append(2 * rng.randrange(1, 13))
            self.lows((12, [], gates, ready), False)

    def test_the_largest_works(self):
        rng = random.Random(5)
        chain = (64, [(0, 2 * (1 + 64 + at)) for at in range(200)],
                 [(2, 4)] + [(2 * (1 + 64 + 200 + at), 3) for at in range(3999)], [2 * (64 + 200 + 4000)])
        rows = []
        for row in range(62):
            ends = [2 * (1 + place) for place in range(64)]
            rows += chained([ends[(row + at) % 64] ^ (row % 2) for at in range(64)], 64, 200, len(rows))
        outs = [2 * (64 + 200 + 63 * (row + 1)) for row in range(62)]
        for work in (some_work(rng, 64, 200, 4000, 64), some_work(rng, 64, 200, 4000, 64, 2), chain,
                     (64, [(0, 2)] * 200, rows, outs)):
            begun = time.perf_counter()
            new, paper = low(work)
            self.assertIsNone(look_two(work, new, paper))
            self.assertLess(time.perf_counter() - begun, 20)
            beats = some_bits(rng, 64, 3) + [[1] * 64, [0] * 64]
            self.assertEqual(plain_bits(new, beats), plain_bits(work, beats))
        is_low(self, work, new)
        self.assertEqual({depths_of(new)[end // 2] for end in new[3]}, {6})


if __name__ == "__main__":
    unittest.main()
