import copy
import random
import unittest

from lampforge.looks import look
from lampforge.runs import run_plan
from tests.things import A, B, plain_run, some_beats, some_plan, wire_row, wired


class RunTest(unittest.TestCase):
    def runs(self, plan, beats, due):
        before = copy.deepcopy((plan, beats))
        self.assertIsNone(look(plan))
        told = run_plan(plan, beats)
        self.assertEqual(told, due)
        self.assertTrue(type(told) is list and all(type(row) is list for row in told))
        for row in told:
            row.append(9)
        told.append(9)
        self.assertEqual((plan, beats), before)
        self.assertEqual(run_plan(plan, beats), due)

    def test_wires_alone(self):
        part = ("top", (("a", 4), ("b", 4)), (("s", 4), ("a", 4), ("u", 1)),
                (wire_row("s", ("sum", A, B), 4), wire_row("u", ("under", A, wired("s")))))
        self.runs([part], [[1, 2], [15, 1], [0, 0]], [[3, 1, 1], [0, 15, 0], [0, 0, 0]])

    def test_rows_in_any_order(self):
        part = ("top", (("a", 2),), (("z", 2),), (wire_row("z", ("not", wired("y")), 2),
                                                  wire_row("y", ("sum", wired("x"), wired("x")), 2), wire_row("x", A, 2)))
        self.runs([part], [[1], [2], [3]], [[1], [3], [1]])

    def test_a_box(self):
        part = ("top", (("by", 4),), (("now", 4),), (("box", "now", 4, 5, ("sum", wired("now"), wired("by"))),))
        self.runs([part], [[1], [2], [15], [0], [0]], [[5], [6], [8], [7], [7]])

    def test_boxes_go_on_all_at_once(self):
        rows = (("box", "a", 2, 1, B), ("box", "b", 2, 2, wired("c")), ("box", "c", 2, 3, A))
        part = ("top", (), (("a", 2), ("b", 2), ("c", 2)), rows)
        for turn in range(3):
            self.runs([part[:3] + (rows[turn:] + rows[:turn],)], [[]] * 5,
                      [[1, 2, 3], [2, 3, 1], [3, 1, 2], [1, 2, 3], [2, 3, 1]])

    def test_boxes_through_wires(self):
        rows = (("box", "a", 3, 0, wired("w")), wire_row("w", ("sum", A, ("choice", wired("by"), ("number", 1, 3), B)), 3),
                ("box", "b", 3, 7, ("less", B, ("number", 1, 3))))
        self.runs([("top", (("by", 1),), (("a", 3), ("w", 3), ("b", 3)), rows)], [[1], [0], [1], [0]],
                  [[0, 1, 7], [1, 7, 6], [7, 0, 5], [0, 4, 4]])

    def test_no_beats_no_ins_no_outs(self):
        part = ("top", (("a", 1),), (("a", 1),), ())
        self.runs([part], [], [])
        self.runs([("top", (), (), ())], [[], [], []], [[], [], []])
        self.runs([("top", (), (("w", 2),), (wire_row("w", ("number", 2, 2), 2),))], [[], []], [[2], [2]])
        self.runs([("top", (("a", 8),), (), (("box", "b", 8, 1, A),))], [[200], [3]], [[], []])

    def test_a_box_behind_a_box(self):
        part = ("top", (("a", 8),), (("d", 8),), (("box", "d", 8, 9, wired("c")), ("box", "c", 8, 8, wired("b")),
                                                  ("box", "b", 8, 7, A)))
        self.runs([part], [[20], [21], [22], [23], [24]], [[9], [8], [7], [20], [21]])

    def test_a_part_twice_keeps_two_boxes(self):
        low = ("low", (("i", 2),), (("o", 2),), (("box", "o", 2, 1, ("sum", wired("o"), wired("i"))),))
        top = ("top", (("a", 2),), (("x", 2), ("y", 2)),
               (("part", "u", "low", (A,), ("x",)), ("part", "v", "low", (wired("x"),), ("y",))))
        self.runs([low, top], [[1], [1], [1], [1]], [[1, 1], [2, 2], [3, 0], [0, 3]])

    def test_copies(self):
        low = ("low", (("i", 4),), (("o", 4),), (wire_row("o", ("sum", wired("i"), ("number", 3, 4)), 4),))
        for many in range(1, 9):
            top = ("top", (("a", 4),), (("x", 4),), (("times", many, "u", "low", (A,), ("x",)),))
            self.runs([low, top], [[0], [7]], [[3 * many % 16], [(7 + 3 * many) % 16]])

    def test_copies_with_boxes(self):
        low = ("low", (("i", 4),), (("o", 4),), (("box", "o", 4, 9, wired("i")),))
        top = ("top", (("a", 4),), (("x", 4),), (("times", 3, "u", "low", (A,), ("x",)),))
        self.runs([low, top], [[number] for number in range(1, 7)], [[9], [9], [9], [1], [2], [3]])

    def test_two_ins_and_outs_crossed_over_in_copies(self):
        low = ("low", (("i", 4), ("j", 4)), (("o", 4), ("p", 4)),
               (wire_row("o", wired("j"), 4), wire_row("p", ("sum", wired("i"), ("number", 1, 4)), 4)))
        top = ("top", (("a", 4), ("b", 4)), (("x", 4), ("y", 4)), (("times", 3, "u", "low", (A, B), ("x", "y")),))
        self.runs([low, top], [[1, 8]], [[9, 3]])

    def test_any_plan_against_a_run_without_spreading(self):
        rng = random.Random(3)
        for turn in range(120):
            plan = some_plan(rng, parts=rng.randint(1, 5))
            beats = some_beats(rng, plan[-1][1], rng.randrange(6))
            self.runs(plan, beats, plain_run(plan, beats))

    def test_a_run_of_fewer_beats_is_the_front(self):
        rng = random.Random(4)
        for turn in range(20):
            plan = some_plan(rng, parts=3)
            beats = some_beats(rng, plan[-1][1], 8)
            whole = run_plan(plan, beats)
            for many in range(9):
                self.assertEqual(run_plan(plan, beats[:many]), whole[:many])

    def test_many_beats(self):
        part = ("top", (), (("n", 8),), (("box", "n", 8, 0, ("sum", wired("n"), ("number", 1, 8))),))
        self.assertEqual(run_plan([part], [[]] * 1000), [[at % 256] for at in range(1000)])


if __name__ == "__main__":
    unittest.main()
