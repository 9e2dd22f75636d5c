import copy
import itertools
import random
import time
import unittest

from lampforge.classes import Classes
from lampforge.steps import is_good
from tests.things import ODD, PlainClasses, nested, plain_good, some_work, swapped


def joined(net, pairs, kind=Classes):
    classes = kind(1 + net[0] + len(net[1]))
    for one, other in pairs:
        assert classes.join(one, other)
    return classes


class StepTest(unittest.TestCase):
    def good(self, net, pairs, step, due=True):
        classes = joined(net, pairs)
        ends = range(2 * (1 + net[0] + len(net[1])))
        before = copy.deepcopy((net, step, [classes.least(end) for end in ends]))
        self.assertIs(is_good(net, classes, step), due, step)
        self.assertEqual((net, step, [classes.least(end) for end in ends]), before)
        self.assertIs(plain_good(net, joined(net, pairs, PlainClasses), step), due, "the plain way")

    def bad(self, net, pairs, step):
        self.good(net, pairs, step, False)


# Eight leaves 1 .. 8; gates 9: 1 and 2, 10: 2 and 1, 11: 9 and 3, 12: 2 and 3, 13: 1 and 12, 14: 1 and not 1.
NET = (8, [(2, 4), (4, 2), (18, 6), (4, 6), (2, 24), (2, 3)])


class FormTest(StepTest):
    def test_good_ones(self):
        for word in ("stands", "row"):
            self.good(NET, [], (word, 18, 20, (2, 4)))
            self.good(NET, [], (word, 22, 26, (2, 4, 6)))
            self.good(NET, [], (word, 28, 0, (2,)))
            self.good(NET, [], (word, 18, 18, (2, 4, 6, 8)))

    def test_any_thing(self):
        for thing in ODD + ("stands", 0, ("stands",), ("stands", 18, 20), ("stands", 18, 20, (2, 4), ())):
            for deep in range(13):
                self.bad(NET, [], nested(thing, deep))

    def test_each_part_wrong_in_turn(self):
        for word in ("stands", "row"):
            step = (word, 18, 20, (2, 4))
            for thing in ODD + ("stand", "rows", "Stands", "ROW", "stands ", "start", ("stands",), ["row"], 0, 1):
                self.bad(NET, [], swapped(step, 0, thing))
            for place in (1, 2):
                for thing in ODD + (30, 31, -1, -2, "18", (18,), [18], 10 ** 59):
                    self.bad(NET, [], swapped(step, place, thing))
            for thing in (None, 0, True, "", "ab", [], [2, 4], ((2, 4),), (2, (4,)), (2, None), (2, "4"), (2, True),
                          (False, 4), (2, 4, 30), (2, 4, -1), (2, 4, 10 ** 59), ([2], [4]), (2, 4, 31)):
                self.bad(NET, [], swapped(step, 3, thing))
            self.bad(NET, [], list(step))
            self.bad(NET, [], [step])

    def test_truths_are_no_ends(self):
        net = (1, [(2, 1)])
        self.good(net, [], ("stands", 1, 1, ()))
        self.good(net, [], ("stands", 0, 0, ()))
        for place, thing in itertools.product((1, 2), (True, False)):
            self.bad(net, [], swapped(("stands", int(thing), int(thing), ()), place, thing))
            self.bad(net, [], swapped(("row", int(thing), int(thing), ()), place, thing))

    def test_the_last_end_of_the_net(self):
        self.good(NET, [], ("stands", 29, 1, (2,)))
        self.good(NET, [], ("stands", 28, 28, (28,)))
        self.bad(NET, [], ("stands", 30, 30, (30,)))

    def test_how_many_leaves(self):
        for many in range(9):
            leaves = tuple(2 * knot for knot in range(1, many + 1))
            self.good(NET, [], ("stands", 0, 0, leaves), many <= 6)
            self.good(NET, [], ("row", 0, 0, leaves))
        net = (66, [])
        for many in (62, 63, 64, 65, 66):
            self.good(net, [], ("row", 0, 0, tuple(2 * knot + knot % 2 for knot in range(1, many + 1))), many <= 64)

    def test_leaves_that_are_known(self):
        for word in ("stands", "row"):
            self.bad(NET, [], (word, 2, 2, (2, 0)))
            self.bad(NET, [], (word, 2, 2, (1, 2)))
            self.bad(NET, [(4, 0)], (word, 2, 2, (2, 4)))
            self.bad(NET, [(4, 1)], (word, 2, 2, (4,)))
            self.bad(NET, [(4, 1)], (word, 2, 2, (5, 2)))
            self.bad(NET, [(4, 6), (7, 1)], (word, 2, 2, (5, 2)))

    def test_leaves_that_are_alike_or_contrary(self):
        for word in ("stands", "row"):
            self.bad(NET, [], (word, 2, 2, (2, 2)))
            self.bad(NET, [], (word, 2, 2, (2, 3)))
            self.bad(NET, [], (word, 2, 2, (4, 2, 5)))
            for turn in (0, 1):
                self.bad(NET, [(4, 6 ^ turn)], (word, 2, 2, (4, 6, 2)))
                self.bad(NET, [(4, 8 ^ turn), (8, 6)], (word, 2, 2, (2, 7, 4)))
                self.good(NET, [(4, 6 ^ turn)], (word, 2, 2, (2, 6)))


class StandsTest(StepTest):
    def test_no_leaves(self):
        self.good(NET, [], ("stands", 0, 0, ()))
        self.good(NET, [], ("stands", 1, 1, ()))
        self.bad(NET, [], ("stands", 0, 1, ()))
        self.bad(NET, [], ("stands", 2, 2, ()))
        self.good(NET, [(2, 0)], ("stands", 2, 0, ()))
        self.good(NET, [(2, 1), (4, 1)], ("stands", 18, 1, ()))
        self.good(NET, [(2, 0), (4, 1)], ("stands", 19, 1, ()))

    def test_two_ends_of_gates(self):
        self.good(NET, [], ("stands", 18, 20, (2, 4)))
        self.good(NET, [], ("stands", 19, 21, (5, 2)))
        self.bad(NET, [], ("stands", 18, 21, (2, 4)))
        self.bad(NET, [], ("stands", 18, 24, (2, 4, 6)))
        self.good(NET, [], ("stands", 22, 26, (2, 4, 6)))
        self.good(NET, [], ("stands", 22, 26, (3, 7, 5)))

    def test_an_end_without_bits_in_some_stand(self):
        self.bad(NET, [], ("stands", 18, 20, (2,)))
        self.bad(NET, [], ("stands", 18, 18, (2,)))
        self.bad(NET, [], ("stands", 22, 22, (18,)))
        self.bad(NET, [], ("stands", 10, 10, (2, 4)))
        # One end of the gate is low in one stand, yet the other has no bit.
        self.bad(NET, [(4, 0)], ("stands", 11, 11, (2,)))
        self.bad((2, [(2, 4), (0, 6)]), [], ("stands", 8, 0, ()))
        self.good((2, [(2, 4), (0, 6)]), [], ("stands", 8, 0, (6,)))
        self.bad((2, [(2, 4), (0, 6)]), [], ("stands", 6, 0, ()))

    def test_ends_alike_to_leaves(self):
        for turn in (0, 1):
            self.good(NET, [(18, 8 ^ turn)], ("stands", 22, 22, (8, 6)))
            self.good(NET, [(18, 8 ^ turn), (24, 10)], ("stands", 18, 8 ^ turn, (9,)))
            self.bad(NET, [(18, 8 ^ turn), (24, 10)], ("stands", 18, 9 ^ turn, (8,)))
        # A leaf that is a gate stands for it, whatever its ends have.
        self.good(NET, [], ("stands", 18, 18, (18, 2, 4)))
        self.bad(NET, [], ("stands", 18, 20, (18, 2, 4)))
        self.good(NET, [(20, 18)], ("stands", 18, 20, (18, 2, 4)))

    def test_ends_alike_to_known_ones(self):
        self.good(NET, [(18, 0)], ("stands", 22, 0, (6,)))
        self.bad(NET, [(18, 0)], ("stands", 22, 0, ()))
        self.good(NET, [(18, 1)], ("stands", 22, 6, (6,)))
        self.good(NET, [(18, 1)], ("stands", 20, 1, (2, 4)), False)
        self.good(NET, [(18, 1), (2, 1)], ("stands", 20, 4, (4,)))

    def test_gates_on_gates_with_turned_ends(self):
        # 3: the and, 4: the and of contraries, 5: odd; 6, 7, 8: odd by another way.
        net = (2, [(2, 4), (3, 5), (7, 9), (2, 5), (3, 4), (13, 15)])
        self.good(net, [], ("stands", 10, 17, (2, 4)))
        self.bad(net, [], ("stands", 10, 16, (2, 4)))
        self.good(net, [], ("stands", 11, 16, (4, 3)))

    def test_six_leaves(self):
        # A row of ands of six leaves by two ways.
        net = (6, [(2, 4), (14, 6), (16, 8), (18, 10), (20, 12), (12, 10), (24, 8), (26, 6), (28, 4), (30, 2)])
        leaves = (2, 4, 6, 8, 10, 12)
        for turn in itertools.permutations(range(6)):
            if turn[0] < turn[1] < turn[2]:
                self.assertIs(is_good(net, joined(net, []), ("stands", 22, 32, tuple(leaves[at] for at in turn))), True)
        self.good(net, [], ("stands", 22, 32, leaves))
        self.good(net, [], ("stands", 23, 33, tuple(leaf ^ 1 for leaf in leaves)))
        self.bad(net, [], ("stands", 22, 30, leaves))

    def test_a_difference_in_one_stand_alone(self):
        for stand in itertools.product((0, 1), repeat=6):
            ends = [2 * (1 + place) + (1 - bit) for place, bit in enumerate(stand)]
            gates = [(ends[0], ends[1])] + [(12 + 2 * at, ends[at + 1]) for at in range(1, 5)]
            net = (6, gates)
            self.assertIs(is_good(net, joined(net, []), ("stands", 22, 0, (2, 4, 6, 8, 10, 12))), False)
            self.assertIs(is_good(net, joined(net, []), ("stands", 22, 22, (2, 4, 6, 8, 10, 12))), True)


class RowTest(StepTest):
    def test_sets(self):
        self.good(NET, [], ("row", 22, 26, (2, 4, 6)))
        self.bad(NET, [], ("row", 22, 18, (2, 4, 6)))
        self.bad(NET, [], ("row", 18, 24, (2, 4, 6)))
        self.good(NET, [], ("row", 2, 2, (2,)))
        self.good(NET, [], ("row", 3, 3, (2,)))
        self.bad(NET, [], ("row", 2, 3, (2,)))
        self.good(NET, [], ("row", 22, 26, (3, 5, 7)))

    def test_low_and_the_empty_set(self):
        self.good(NET, [], ("row", 0, 0, ()))
        self.good(NET, [], ("row", 1, 1, ()))
        self.bad(NET, [], ("row", 0, 1, ()))
        self.good(NET, [(2, 1), (4, 1)], ("row", 18, 1, ()))
        self.good(NET, [(2, 1)], ("row", 18, 4, (4,)))
        self.good(NET, [(2, 0)], ("row", 18, 0, ()))
        self.good(NET, [(4, 0)], ("row", 18, 0, ()))
        self.bad(NET, [(4, 0)], ("row", 18, 1, ()))

    def test_low_where_the_other_end_comes_to_nothing(self):
        self.good((2, [(0, 2), (4, 6), (0, 4)]), [], ("row", 8, 10, ()))
        self.good((2, [(2, 0)]), [], ("row", 6, 0, ()))
        self.bad((2, [(2, 1)]), [], ("row", 6, 0, ()))
        self.bad((2, [(2, 1)]), [], ("row", 6, 1, ()))

    def test_a_leaf_and_its_contrary(self):
        self.good(NET, [], ("row", 28, 0, (2,)))
        self.good(NET, [], ("row", 28, 28, (3,)))
        # The two in unlike depths.
        net = (3, [(2, 4), (8, 6), (10, 5), (3, 6), (8, 14)])
        self.good(net, [], ("row", 12, 0, (2, 4, 6)))
        self.good(net, [], ("row", 12, 16, (2, 4, 6)))
        self.bad(net, [], ("row", 12, 14, (2, 4, 6)))
        self.bad(net, [], ("row", 12, 0, (2, 4)))

    def test_nothing(self):
        self.bad(NET, [], ("row", 18, 18, (2,)))
        self.bad(NET, [], ("row", 18, 18, ()))
        self.bad(NET, [], ("row", 4, 4, (2,)))
        # Turned ends of gates come to nothing, unless they are alike to something.
        self.bad(NET, [], ("row", 19, 19, (2, 4)))
        self.bad(NET, [], ("row", 19, 21, (2, 4)))
        self.good(NET, [], ("row", 19, 19, (18,)))
        self.good(NET, [(19, 8)], ("row", 19, 8, (9,)))
        self.good(NET, [(18, 0)], ("row", 19, 1, ()))
        net = (2, [(2, 4), (7, 2)])
        self.bad(net, [], ("row", 8, 8, (2, 4)))
        self.good(net, [], ("row", 8, 8, (2, 6)))

    def test_the_same_set_by_other_ways(self):
        # Ends that stand twice; turned leaves.
        net = (3, [(2, 2), (2, 8), (3, 4), (4, 3), (12, 3), (6, 4), (3, 18)])
        self.good(net, [], ("row", 10, 2, (2,)))
        self.good(net, [], ("row", 8, 10, (2,)))
        self.good(net, [], ("row", 12, 14, (2, 4)))
        self.good(net, [], ("row", 16, 14, (3, 4)))
        self.bad(net, [], ("row", 12, 8, (2, 4)))
        self.bad(net, [], ("row", 20, 12, (2, 4, 6)))

    def test_ends_alike_to_leaves(self):
        for turn in (0, 1):
            self.good(NET, [(8, 6 ^ turn)], ("row", 22, 22, (2, 4, 8)))
            self.good(NET, [(18, 8 ^ turn)], ("row", 22, 22, (8, 6)))
            self.good(NET, [(18, 8 ^ turn)], ("row", 18, 8 ^ turn, (8,)))
            self.bad(NET, [(18, 8 ^ turn)], ("row", 18, 9 ^ turn, (8,)))

    def test_sixty_four_leaves(self):
        gates = [(2, 4)] + [(2 * (64 + at), 2 * (2 + at)) for at in range(1, 63)]
        back = [(128, 126)] + [(2 * (63 + 64 + at), 2 * (63 - at)) for at in range(1, 63)]
        net = (64, gates + back)
        leaves = tuple(2 * knot for knot in range(1, 65))
        self.good(net, [], ("row", 2 * (64 + 63), 2 * (64 + 126), leaves))
        self.bad(net, [], ("row", 2 * (64 + 62), 2 * (64 + 126), leaves))
        self.bad(net, [], ("row", 2 * (64 + 63), 2 * (64 + 125), leaves))
        for place in (0, 31, 63):
            self.bad(net, [], ("row", 2 * (64 + 63), 2 * (64 + 126), leaves[:place] + leaves[place + 1:]))
            self.good(net, [(leaves[place], 1)], ("row", 254, 380, leaves[:place] + leaves[place + 1:]))
            self.good(net, [(leaves[place], 0)], ("row", 254, 380, leaves[:place] + leaves[place + 1:]))
            self.good(net, [(leaves[place], 0)], ("row", 254, 380, ()))


class AnyTest(StepTest):
    def test_any_step(self):
        rng = random.Random(1)
        counted = {}
        for turn in range(1500):
            leaves, gates = rng.randint(1, 5), rng.randint(1, 7)
            work = some_work(rng, leaves, 0, gates, 0)
            net = (leaves, work[2])
            ends = 2 * (1 + leaves + gates)
            pairs = []
            classes = joined(net, [])
            for step in range(rng.randrange(4)):
                pair = (rng.randrange(ends), rng.randrange(ends))
                if classes.join(*pair):
                    pairs.append(pair)
            for step in range(8):
                near = rng.sample(range(1, 1 + leaves + gates if rng.random() < 0.3 else 1 + leaves),
                                  rng.randint(0, leaves))
                one = rng.randrange(ends)
                other = rng.choice([classes.least(one), one, rng.randrange(ends), rng.randrange(2)])
                told = (rng.choice(("stands", "row")), one, other, tuple(2 * knot + rng.randrange(2) for knot in near))
                due = plain_good(net, joined(net, pairs, PlainClasses), told)
                counted[told[0], due] = counted.get((told[0], due), 0) + 1
                self.assertIs(is_good(net, classes, told), due, (net, pairs, told))
        self.assertGreater(min(counted.values()), 500)

    def test_deep_nets(self):
        gates = [(2, 4)] + [(2 * knot, 4) for knot in range(3, 8003)]
        net = (2, gates)
        classes = joined(net, [])
        begun = time.perf_counter()
        self.assertIs(is_good(net, classes, ("stands", 2 * 8003, 6, (2, 4))), True)
        self.assertIs(is_good(net, classes, ("row", 2 * 8003, 6, (2, 4))), True)
        self.assertIs(is_good(net, classes, ("stands", 2 * 8003, 6, (2,))), False)
        self.assertIs(is_good(net, classes, ("row", 2 * 8003, 6, (2,))), False)
        self.assertLess(time.perf_counter() - begun, 10)


if __name__ == "__main__":
    unittest.main()
