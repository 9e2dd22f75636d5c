import random
import time
import unittest

from lampforge.moved import moved
from lampforge.papers import look_two
from tests.things import check_pass, plain_bits, some_bits, some_work


def due_of(work):
    """The work that is due, knots by names: ("box", place), ("gate", place), ("new box", place), ("new gate", place)."""
    ins, boxes, gates, outs = work

    def knot_name(knot):
        if knot <= ins:
            return ("in", knot)
        if knot <= ins + len(boxes):
            return ("box", knot - ins - 1)
        return ("gate", knot - ins - len(boxes) - 1)
    gone = []
    for place, gate in enumerate(gates):
        names = [knot_name(end // 2) for end in gate]
        if names[0] != names[1] and all(name[0] == "box" for name in names):
            gone.append(place)
    order = [("in", knot) for knot in range(ins + 1)] + [("box", place) for place in range(len(boxes))]
    order += [("new box", place) for place in gone]
    order += [("gate", place) for place in range(len(gates)) if place not in gone]
    order += [("new gate", place) for place in gone]
    number = {name: at for at, name in enumerate(order)}

    def end_of(end):
        kind, place = knot_name(end // 2)
        if kind == "gate" and place in gone:
            kind = "new box"
        return 2 * number[kind, place] + end % 2

    def box_of(end):
        return boxes[knot_name(end // 2)[1]]
    new_boxes = [(first, end_of(end)) for first, end in boxes]
    new_gates = [tuple(end_of(end) for end in gate) for place, gate in enumerate(gates) if place not in gone]
    for place in gone:
        firsts = [box_of(end)[0] if end % 2 == 0 else 1 - box_of(end)[0] for end in gates[place]]
        new_boxes.append((min(firsts), 2 * number["new gate", place]))
        new_gates.append(tuple(end_of(box_of(end)[1] ^ (end % 2)) for end in gates[place]))
    return (ins, new_boxes, new_gates, [end_of(end) for end in outs])


class MovedTest(unittest.TestCase):
    def moves(self, work, due=None):
        new = check_pass(self, moved, work, some_bits(random.Random(1), work[0], 8))
        self.assertEqual(new, due_of(work))
        if due is not None:
            self.assertEqual(new, due)

    def test_nothing_to_move(self):
        for work in ((0, [], [], []), (2, [], [(2, 4)], [6]), (1, [(0, 6)], [(2, 4)], [6]), (1, [(1, 6)], [(4, 5)], [6]),
                     (1, [(1, 6)], [(4, 4)], [6]), (0, [(1, 3), (0, 2)], [], [2, 5]), (0, [(1, 2)], [(0, 2), (2, 1)], [5]),
                     (1, [(1, 2), (0, 2)], [(2, 4), (6, 8)], [10])):
            self.moves(work, work)

    def test_one_gate_with_each_turn_and_first(self):
        for first in (0, 1):
            for other in (0, 1):
                for one in (4, 5, 6, 7):
                    for two in (4, 5, 6, 7):
                        self.moves((1, [(first, 2), (other, 5)], [(one, two)], [8, 9, 4, 6]))

    def test_an_example(self):
        # In 1, boxes 2 3, gate 4; the new box is 4, its gate 5.
        self.moves((1, [(0, 2), (1, 3)], [(7, 4)], [9, 8]), (1, [(0, 2), (1, 3), (0, 10)], [(2, 2)], [9, 8]))
        self.moves((1, [(1, 2), (0, 8)], [(4, 7)], [8]), (1, [(1, 2), (0, 8), (1, 10)], [(2, 9)], [8]))

    def test_several_and_gates_on_such_gates(self):
        # In 1, boxes 2 3 4, gates 5: 2 and 3, 6: in and 5, 7: not 4 and 2, 8: 5 and not 7, 9: 4 and not 4.
        work = (1, [(1, 10), (1, 13), (0, 15)], [(4, 6), (2, 10), (9, 4), (10, 15), (8, 9)], [10, 16, 15, 18])
        self.moves(work, (1, [(1, 10), (1, 15), (0, 13), (1, 20), (1, 22)], [(2, 10), (10, 13), (8, 9), (10, 15), (12, 10)],
                          [10, 16, 13, 18]))

    def test_two_gates_with_the_same_boxes(self):
        self.moves((1, [(1, 2), (1, 3)], [(4, 6), (6, 4), (4, 6)], [8, 10, 13]))

    def test_new_gates_of_moved_gates(self):
        # The boxes are driven by the gates that move.
        self.moves((0, [(1, 6), (1, 9)], [(2, 4), (3, 4)], [6, 9]))
        self.moves((0, [(1, 6), (0, 6), (1, 7)], [(2, 4), (8, 6), (5, 9)], [8, 10, 12][:2]))

    def test_boxes_driven_by_known_ends_ins_and_boxes(self):
        for one in range(8):
            for other in range(8):
                self.moves((1, [(0, one), (1, other)], [(4, 7), (8, 2)], [10, 8]))

    def test_any_work(self):
        rng = random.Random(2)
        for turn in range(250):
            ins = rng.randrange(3)
            self.moves(some_work(rng, ins, rng.randint(1, 4), rng.randrange(9), rng.randrange(4)))

    def test_any_work_of_many_moves(self):
        rng = random.Random(3)
        for turn in range(150):
            ins, boxes = rng.randrange(2), rng.randint(2, 4)
            gates = [(rng.randrange(2 * ins + 2, 2 * (1 + ins + boxes)), rng.randrange(2 * ins + 2, 2 * (1 + ins + boxes)))
                     for gate in range(rng.randint(1, 4))]
            knots = 1 + ins + boxes + len(gates)
            kept = [(rng.randrange(2), rng.randrange(2 * knots)) for box in range(boxes)]
            self.moves((ins, kept, gates, [rng.randrange(2 * knots) for out in range(3)]))

    def test_the_largest_works(self):
        rng = random.Random(4)
        for boxes, near in ((20, None), (100, None), (100, 60)):
            work = some_work(rng, 64, boxes, 4000, 64, near)
            begun = time.perf_counter()
            new, paper = moved(work)
            self.assertIsNone(look_two(work, new, paper))
            self.assertLess(time.perf_counter() - begun, 20)
            self.assertEqual(new, due_of(work))
            beats = some_bits(rng, 64, 4)
            self.assertEqual(plain_bits(new, beats), plain_bits(work, beats))


if __name__ == "__main__":
    unittest.main()
