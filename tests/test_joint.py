import copy
import itertools
import random
import time
import unittest

from lampforge.errors import NoPair
from lampforge.joint import is_table, meet
from tests.things import ODD, nested, plain_beat, plain_bits, refused, some_work, swapped


def first_joint(one, other):
    return tuple(tuple(first for first, end in work[1]) for work in (one, other))


def reached(one, other):
    """All joint stands that can be come to, with the length of a shortest way, and a shortest parting's length."""
    far = {first_joint(one, other): 0}
    waiting = [first_joint(one, other)]
    parting = None
    for joint in waiting:
        for row in itertools.product((0, 1), repeat=one[0]):
            told = [plain_beat(work, stand, row) for work, stand in zip((one, other), joint)]
            if told[0][0] != told[1][0] and parting is None:
                parting = far[joint] + 1
            later = tuple(tuple(stand) for outs, stand in told)
            if later not in far:
                far[later] = far[joint] + 1
                waiting.append(later)
    return far, parting


def counter(bits, end_out):
    """A work without ins that counts: box k turns where all below it are 1; out: the and of all, or low."""
    first = 1
    gates, ends, carry = [], [], 1
    for place in range(bits):
        own = 2 * (first + place)
        number = first + bits + len(gates)
        # odd of own and carry: three gates; then the next carry is the first of them.
        gates += [(own, carry), (own ^ 1, carry ^ 1), (2 * number + 1, 2 * (number + 1) + 1)]
        ends.append(2 * (number + 2))
        carry = 2 * number
    return (0, [(0, end) for end in ends], gates, [carry if end_out else 0])


class MeetTest(unittest.TestCase):
    def meets(self, one, other, most=500):
        before = copy.deepcopy((one, other))
        told = meet(one, other, most)
        self.assertEqual((one, other), before)
        self.assertIs(type(told), tuple)
        far, parting = reached(one, other)
        if told[0] == "open":
            self.assertGreater(len(far), most)
            self.assertEqual(told, ("open", most))
        elif told[0] == "alike":
            self.assertIsNone(parting)
            self.assertIs(type(told[1]), list)
            self.assertEqual(sorted(told[1]), sorted(far))
            self.assertTrue(all(type(joint) is tuple and type(part) is tuple for joint in told[1] for part in joint))
            self.assertTrue(all(type(bit) is int for joint in told[1] for part in joint for bit in part))
            self.assertIs(is_table(one, other, told[1]), True)
        else:
            self.assertEqual(told[0], "part")
            self.assertEqual(len(told[1]), parting)
            self.assertTrue(type(told[1]) is list and all(type(beat) is list for beat in told[1]))
            self.assertTrue(all(type(bit) is int and bit in (0, 1) for beat in told[1] for bit in beat))
            self.assertTrue(all(len(beat) == one[0] for beat in told[1]))
            left, right = plain_bits(one, told[1]), plain_bits(other, told[1])
            self.assertEqual(left[:-1], right[:-1])
            self.assertNotEqual(left[-1], right[-1])
        kept = copy.deepcopy(told)
        if told[0] != "open":
            told[1].append(None)
            self.assertEqual(meet(one, other, most)[0], kept[0])
            self.assertEqual(len(meet(one, other, most)[1]), len(kept[1]))
        return kept

    def test_no_boxes(self):
        one = (2, [], [(2, 4)], [6])
        self.assertEqual(self.meets(one, (2, [], [(4, 2)], [6])), ("alike", [((), ())]))
        self.assertEqual(self.meets(one, (2, [], [(3, 5)], [7])[:3] + ([7],))[0], "part")
        self.assertEqual(self.meets((0, [], [], [1]), (0, [], [], [1])), ("alike", [((), ())]))
        self.assertEqual(self.meets((0, [], [], [1]), (0, [], [], [0])), ("part", [[]]))

    def test_a_difference_at_one_beat_alone(self):
        for ins in range(1, 7):
            for stand in list(itertools.product((0, 1), repeat=ins))[:: max(1, 2 ** ins // 8)]:
                ends = [2 * (1 + place) + 1 - bit for place, bit in enumerate(stand)]
                gates = [(ends[0], 1)] + [(2 * (ins + 1 + at), end) for at, end in enumerate(ends[1:])]
                one = (ins, [], gates, [2 * (ins + len(gates))])
                self.assertEqual(self.meets(one, (ins, [], [], [0])), ("part", [list(stand)]))
                self.assertEqual(self.meets((ins, [], [], [0]), one), ("part", [list(stand)]))

    def test_no_outs(self):
        one, other = (1, [(0, 2)], [], []), (1, [(1, 3), (0, 2)], [], [])
        self.assertEqual(self.meets(one, other)[0], "alike")
        self.assertEqual(self.meets((0, [], [], []), (0, [], [], [])), ("alike", [((), ())]))

    def test_only_the_last_of_several_outs_differs(self):
        self.assertEqual(self.meets((1, [], [], [2, 3, 0]), (1, [], [], [2, 3, 1]))[0], "part")
        self.assertEqual(self.meets((1, [], [], [2, 3, 0]), (1, [], [], [2, 2, 0]))[0], "part")

    def test_no_ins_and_late_partings(self):
        for bits in range(1, 7):
            told = self.meets(counter(bits, True), (0, [], [], [0]))
            self.assertEqual(told, ("part", [[]] * 2 ** bits))
            told = self.meets(counter(bits, False), (0, [(0, 3)], [], [0]))
            self.assertEqual((told[0], len(told[1])), ("alike", 2 ** bits))

    def test_rows_of_boxes(self):
        # A bit comes out three beats later, in the other work four: they part at the fourth beat.
        one = (1, [(0, 2), (0, 4), (0, 6)], [], [8])
        other = (1, [(0, 2), (0, 4), (0, 6), (0, 8)], [], [10])
        told = self.meets(one, other)
        self.assertEqual((told[0], len(told[1]), told[1][0]), ("part", 4, [1]))
        self.assertEqual(self.meets(one, one)[0], "alike")
        self.assertEqual(len(self.meets(one, one)[1]), 8)

    def test_partings_whose_beats_stand_in_one_order_alone(self):
        # Out is 1 where the last beats had a told pattern.
        for many in (1, 2, 3, 4):
            for pattern in itertools.product((0, 1), repeat=many):
                boxes = [(0, 2 * (1 + place)) for place in range(many)]
                ends = [2 * (2 + place) + 1 - bit for place, bit in enumerate(reversed(pattern))]
                gates = [(ends[0], 1)] + [(2 * (many + 2 + at), end) for at, end in enumerate(ends[1:])]
                one = (1, boxes, gates, [2 * (many + 1 + many)])
                told = self.meets(one, (1, [], [], [0]))
                self.assertEqual(told[0], "part")
                if 1 in pattern:
                    from_first_high = list(pattern[pattern.index(1):])
                    self.assertEqual([beat[0] for beat in told[1][:-1]], from_first_high)

    def test_mosts(self):
        one = (1, [(0, 2), (0, 4), (0, 6)], [], [8])
        for most in (8, 9, 500):
            self.assertEqual(self.meets(one, one, most)[0], "alike")
        for most in (1, 2, 6, 7):
            self.assertEqual(self.meets(one, one, most)[0], "open")
        for bits in range(1, 9):
            same = counter(bits, False)
            self.assertEqual(self.meets(same, (0, [], [], [0]), 2 ** bits)[0], "alike")
            self.assertEqual(self.meets(same, (0, [], [], [0]), 2 ** bits - 1)[0], "open") if bits > 1 else None
            if bits < 9:
                self.assertEqual(self.meets(counter(bits, True), (0, [], [], [0]), 2 ** bits)[0], "part")

    def test_a_most_of_one(self):
        self.assertEqual(self.meets((1, [(0, 4)], [], [4]), (1, [], [], [0]), 1), ("alike", [((0,), ())]))
        self.assertEqual(self.meets((1, [(0, 4)], [], [4]), (1, [], [], [1]), 1)[0], "part")

    def test_five_hundred(self):
        same = counter(9, False)
        begun = time.perf_counter()
        self.assertEqual(meet(same, (0, [], [], [0]), 500), ("open", 500))
        self.assertEqual(len(meet(same, (0, [], [], [0]), 512)[1]), 512)
        self.assertLess(time.perf_counter() - begun, 20)

    def test_any_two_works(self):
        rng = random.Random(1)
        seen = set()
        for turn in range(300):
            ins = rng.randrange(4)
            one = some_work(rng, ins, rng.randrange(4), rng.randrange(8), rng.randrange(3))
            other = some_work(rng, ins, rng.randrange(4), rng.randrange(8), len(one[3]))
            if rng.random() < 0.5:
                other = (ins, one[1], one[2], one[3])
            if rng.random() < 0.3 and other[1]:
                other = (ins, [(1 - other[1][0][0], other[1][0][1])] + other[1][1:], other[2], other[3])
            seen.add(self.meets(one, other, rng.choice((1, 3, 8, 500)))[0])
        self.assertEqual(seen, {"alike", "part", "open"})

    def test_the_largest_works(self):
        rng = random.Random(2)
        work = some_work(rng, 6, 200, 4000, 64)
        begun = time.perf_counter()
        self.assertEqual(meet(work, work, 20)[0], "open")
        self.assertLess(time.perf_counter() - begun, 20)


class TableTest(unittest.TestCase):
    # Box 1 of each goes on by the in; the second work has a box that keeps its first.
    ONE = (1, [(0, 2)], [], [4])
    OTHER = (1, [(0, 2), (1, 6)], [(4, 6)], [8])
    TABLE = [((0,), (0, 1)), ((1,), (1, 1))]

    def table(self, thing, due=True):
        before = copy.deepcopy(thing)
        self.assertIs(is_table(self.ONE, self.OTHER, thing), due, thing)
        self.assertEqual(thing, before)

    def test_tables(self):
        self.table(self.TABLE)
        self.table(self.TABLE[::-1])
        # One that can not be come to, where what it comes to is there too.
        other = (0, [(0, 2), (1, 4)], [], [2])
        self.assertIs(is_table(other, other, [((0, 1), (0, 1))]), True)
        self.assertIs(is_table(other, other, [((0, 1), (0, 1)), ((1, 0), (1, 0))]), True)
        self.assertIs(is_table(other, other, [((0, 1), (0, 1)), ((1, 0), (0, 0))]), False)
        self.assertIs(is_table(other, other, [((1, 1), (1, 1))]), False)

    def test_one_left_out_or_twice(self):
        for place in range(2):
            self.table(self.TABLE[:place] + self.TABLE[place + 1:], False)
            for at in range(3):
                self.table(self.TABLE[:at] + [self.TABLE[place]] + self.TABLE[at:], False)
        self.table([], False)

    def test_one_too_many(self):
        # Outs unlike there; or it comes to one that is not there.
        self.table(self.TABLE + [((0,), (1, 1))], False)
        self.table(self.TABLE + [((0,), (0, 0))], False)
        self.table(self.TABLE + [((0,), (1, 0))], False)
        line = (0, [(0, 2), (0, 2)], [], [2])
        self.assertIs(is_table(line, line, [((0, 0), (0, 0))]), True)
        self.assertIs(is_table(line, line, [((0, 0), (0, 0)), ((0, 1), (0, 0))]), True)
        turn = (0, [(0, 2), (0, 5)], [], [2])
        self.assertIs(is_table(turn, turn, [((0, 0), (0, 0))]), False)
        self.assertIs(is_table(turn, turn, [((0, 0), (0, 0)), ((0, 1), (0, 1))]), True)
        self.assertIs(is_table(turn, turn, [((0, 0), (0, 0)), ((0, 1), (0, 1)), ((0, 0), (0, 1))]), False)

    def test_works_that_part(self):
        self.assertIs(is_table(self.ONE, (1, [(0, 2)], [], [5]), [((0,), (0,)), ((1,), (1,))]), False)
        for outs in ([4, 5], [5, 4]):
            self.assertIs(is_table((1, [(0, 2)], [], [4, 4]), (1, [(0, 2)], [], outs), [((0,), (0,)), ((1,), (1,))]), False)
        # They part at one of the beats alone.
        self.assertIs(is_table((2, [], [(2, 4)], [6]), (2, [], [], [0]), [((), ())]), False)
        self.assertIs(is_table((2, [], [(2, 3)], [6]), (2, [], [], [0]), [((), ())]), True)

    def test_lists_for_tuples_and_others(self):
        for wrong in (((0,), [0, 1]), ([0], (0, 1)), [(0,), (0, 1)], ((0,),), ((0,), (0, 1), ()), ((), (0, 1)), ((0,), (0,)),
                      ((0, 0), (0, 1)), ((0,), (0, 1, 1)), ((True,), (1, 1)), ((False,), (0, 1)), ((0,), (0, True)),
                      ((2,), (0, 1)), ((-1,), (0, 1)), (("0",), (0, 1)), ((None,), (0, 1)), ((0,), (0, (1,))), None, 0, "00",
                      ((0, 1), (0,)), (((0,),), (0, 1)), ((10 ** 59,), (0, 1))):
            for place in range(2):
                self.table(self.TABLE[:place] + [wrong] + self.TABLE[place + 1:], False)
                self.table(self.TABLE[:place] + [wrong] + self.TABLE[place:], False)

    def test_boxes_that_nothing_reads(self):
        work = (0, [(0, 0)], [], [1])
        self.assertIs(is_table(work, work, [((0,), (0,))]), True)
        self.assertIs(is_table(work, work, [((0,), (0,)), ((1,), (0,))]), True)
        for bit in (2, -1, True, None, "1", 10 ** 59):
            self.assertIs(is_table(work, work, [((0,), (0,)), ((bit,), (0,))]), False)
            self.assertIs(is_table(work, work, [((0,), (0,)), ((0,), (bit,))]), False)

    def test_things_that_are_no_list(self):
        for thing in ODD + (0, tuple(self.TABLE), "table", {}):
            self.table(thing, False)
            self.table(nested(thing, 3), False)
        self.table([self.TABLE], False)
        self.table([((0,), (0, 1))] * 1000, False)

    def test_each_place_of_a_large_table(self):
        same = counter(5, False)
        table = meet(same, same, 500)[1]
        self.assertIs(is_table(same, same, table), True)
        for place in range(0, 32, 3):
            self.assertIs(is_table(same, same, table[:place] + table[place + 1:]), False)


class PairTest(unittest.TestCase):
    def test_works_that_are_no_pair(self):
        one = (2, [(0, 2)], [], [2, 6])
        for other in (swapped(one, 0, 1), swapped(one, 0, 3), swapped(one, 3, [2]), swapped(one, 3, [2, 6, 0]), (7, [], [], [])):
            for pair in ((one, other), (other, one)):
                refused(self, NoPair, {}, meet, pair[0], pair[1], 500)
                for thing in ([], None, [((0,), (0,))], "table"):
                    refused(self, NoPair, {}, is_table, pair[0], pair[1], thing)

    def test_too_many_ins(self):
        for ins in range(0, 10):
            work = (ins, [(1, 1)], [], [2 * (ins + 1)])
            if ins <= 6:
                self.assertEqual(meet(work, work, 500), ("alike", [((1,), (1,))]))
                self.assertIs(is_table(work, work, [((1,), (1,))]), True)
            else:
                refused(self, NoPair, {}, meet, work, work, 500)
                refused(self, NoPair, {}, is_table, work, work, [((1,), (1,))])
                refused(self, NoPair, {}, is_table, work, work, None)


if __name__ == "__main__":
    unittest.main()
