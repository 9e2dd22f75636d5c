import copy
import random
import unittest

from lampforge.looks import look
from lampforge.spread import spread
from tests.things import A, some_plan, spread_size, wire_row, wired

HIGH = ("number", 1, 1)


class SpreadTest(unittest.TestCase):
    def spreads(self, plan, ins, outs, rows):
        before = copy.deepcopy(plan)
        told = spread(plan)
        self.assertEqual(told, (ins, outs, rows))
        self.assertEqual([type(thing) for thing in told], [list, list, list])
        self.assertTrue(all(type(thing) is tuple for part in told for thing in part))
        for part in told:
            part.append("more")
        self.assertEqual(plan, before)
        self.assertEqual(spread(plan), (ins, outs, rows))

    def test_wire_and_box_rows(self):
        rows = (wire_row("a", ("and", wired("i"), ("cut", 1, 1, wired("b"))), 1), ("box", "b", 2, 3, ("number", 2, 2)),
                wire_row("c", ("table", 2, (1, 3), ("choice", wired("i"), A, ("up", 2, wired("i")))), 2))
        self.spreads([("top", (("i", 1), ("j", 8)), (("c", 2), ("a", 1)), rows)], [("i", 1), ("j", 8)],
                     [("c", 2), ("a", 1)], list(rows))

    def test_nothing(self):
        self.spreads([("top", (), (), ())], [], [], [])
        low = ("low", (), (), ())
        self.spreads([low, ("top", (), (), (("part", "u", "low", (), ()), ("times", 8, "v", "low", (), ())))], [], [], [])

    def test_a_part_row(self):
        low = ("low", (("i", 2), ("j", 1)), (("o", 1), ("b", 3)),
               (wire_row("o", ("join", wired("j"), wired("i")), 3), ("box", "b", 3, 5, ("not", wired("o")))))
        rows = (wire_row("p", ("not", wired("y"))),
                ("part", "u", "low", (("up", 1, wired("x")), ("and", wired("y"), ("number", 1, 1))), ("q", "r")),
                wire_row("s", wired("q")))
        self.spreads([low, ("top", (("x", 2), ("y", 1)), (("r", 3),), rows)], [("x", 2), ("y", 1)], [("r", 3)], [
            wire_row("p", ("not", wired("y"))),
            wire_row("u.i", ("up", 1, wired("x")), 2),
            wire_row("u.j", ("and", wired("y"), ("number", 1, 1))),
            wire_row("u.o", ("join", wired("u.j"), wired("u.i")), 3),
            ("box", "u.b", 3, 5, ("not", wired("u.o"))),
            wire_row("q", wired("u.o")),
            wire_row("r", wired("u.b"), 3),
            wire_row("s", wired("q"))])

    def test_a_times_row_of_one_copy(self):
        low = ("low", (("i", 2),), (("o", 2),), (wire_row("o", ("not", wired("i")), 2),))
        self.spreads([low, ("top", (("a", 2),), (), (("times", 1, "u", "low", (A,), ("b",)),))], [("a", 2)], [], [
            wire_row("u.0.i", A, 2), wire_row("u.0.o", ("not", wired("u.0.i")), 2), wire_row("b", wired("u.0.o"), 2)])

    def test_a_times_row_of_several_copies(self):
        low = ("low", (("i", 2), ("j", 1)), (("o", 2), ("j", 1)), (wire_row("o", ("not", wired("i")), 2),))
        use = ("times", 3, "u", "low", (("sum", A, A), HIGH), ("b", "c"))
        self.spreads([low, ("top", (("a", 2),), (("c", 1),), (use,))], [("a", 2)], [("c", 1)], [
            wire_row("u.0.i", ("sum", A, A), 2), wire_row("u.0.j", HIGH), wire_row("u.0.o", ("not", wired("u.0.i")), 2),
            wire_row("u.1.i", wired("u.0.o"), 2), wire_row("u.1.j", wired("u.0.j")),
            wire_row("u.1.o", ("not", wired("u.1.i")), 2),
            wire_row("u.2.i", wired("u.1.o"), 2), wire_row("u.2.j", wired("u.1.j")),
            wire_row("u.2.o", ("not", wired("u.2.i")), 2),
            wire_row("b", wired("u.2.o"), 2), wire_row("c", wired("u.2.j"))])

    def test_parts_and_copies_within_one_another(self):
        low = ("low", (("i", 1),), (("o", 1),), (("box", "o", 1, 1, wired("i")),))
        mid = ("mid", (("i", 1),), (("w", 1),), (("times", 2, "t", "low", (("not", wired("i")),), ("w",)),))
        top = ("top", (("a", 1),), (("z", 1),), (("times", 2, "m", "mid", (A,), ("y",)), ("part", "p", "mid", (wired("y"),), ("z",))))

        def mid_rows(front, saying):
            return [wire_row(front + "i", saying), wire_row(front + "t.0.i", ("not", wired(front + "i"))),
                    ("box", front + "t.0.o", 1, 1, wired(front + "t.0.i")),
                    wire_row(front + "t.1.i", wired(front + "t.0.o")),
                    ("box", front + "t.1.o", 1, 1, wired(front + "t.1.i")),
                    wire_row(front + "w", wired(front + "t.1.o"))]
        rows = mid_rows("m.0.", A) + mid_rows("m.1.", wired("m.0.w")) + [wire_row("y", wired("m.1.w"))]
        rows += mid_rows("p.", wired("y")) + [wire_row("z", wired("p.w"))]
        self.spreads([low, mid, top], [("a", 1)], [("z", 1)], rows)

    def test_no_ins_no_outs_no_rows(self):
        first = ("first", (), (("o", 1),), (wire_row("o", HIGH),))
        sink = ("sink", (("i", 1),), (), (wire_row("w", wired("i")),))
        idle = ("idle", (("i", 1),), (("i", 1),), ())
        top = ("top", (), (), (("part", "f", "first", (), ("a",)), ("part", "s", "sink", (A,), ()),
                               ("times", 2, "t", "idle", (A,), ("b",)), ("part", "e", "empty", (), ())))
        self.spreads([first, sink, idle, ("empty", (), (), ()), top], [], [], [
            wire_row("f.o", HIGH), wire_row("a", wired("f.o")), wire_row("s.i", A), wire_row("s.w", wired("s.i")),
            wire_row("t.0.i", A), wire_row("t.1.i", wired("t.0.i")), wire_row("b", wired("t.1.i"))])

    def test_ins_alone(self):
        sink = ("sink", (("i", 3), ("j", 1)), (), ())
        top = ("top", (("a", 3),), (), (("part", "s", "sink", (A, HIGH), ()),))
        self.spreads([sink, top], [("a", 3)], [], [wire_row("s.i", A, 3), wire_row("s.j", HIGH)])
        mid = ("mid", (), (), (("part", "s", "sink", (("number", 5, 3), HIGH), ()),))
        top = ("top", (), (), (("times", 2, "m", "mid", (), ()),))
        self.spreads([sink, mid, top], [], [], [
            wire_row("m.0.s.i", ("number", 5, 3), 3), wire_row("m.0.s.j", HIGH),
            wire_row("m.1.s.i", ("number", 5, 3), 3), wire_row("m.1.s.j", HIGH)])

    def test_outs_alone_through_parts(self):
        low = ("low", (), (("o", 1),), (wire_row("o", HIGH),))
        mid = ("mid", (), (("p", 1),), (("part", "l", "low", (), ("p",)),))
        top = ("top", (), (("q", 1),), (("part", "m", "mid", (), ("q",)),))
        self.spreads([low, mid, top], [], [("q", 1)], [wire_row("m.l.o", HIGH), wire_row("m.p", wired("m.l.o")),
                                                       wire_row("q", wired("m.p"))])

    def test_rows_alone_within_parts(self):
        for row in (wire_row("w", HIGH), ("box", "w", 1, 0, HIGH)):
            low = ("low", (), (), (row,))
            mid = ("mid", (), (), (("times", 2, "l", "low", (), ()), ("part", "n", "none", (), ())))
            top = ("top", (), (), (("part", "m", "mid", (), ()), ("times", 2, "n", "none", (), ())))
            self.spreads([low, ("none", (), (), ()), mid, top], [], [],
                         [(row[0], f"m.l.{copy}.w") + row[2:] for copy in range(2)])

    def test_copies_without_ins_and_outs(self):
        low = ("low", (), (), (("box", "o", 1, 1, HIGH),))
        self.spreads([low, ("top", (), (), (("times", 3, "t", "low", (), ()),))], [], [],
                     [("box", "t.0.o", 1, 1, HIGH), ("box", "t.1.o", 1, 1, HIGH), ("box", "t.2.o", 1, 1, HIGH)])

    def test_more_empty_copies_than_can_be_walked(self):
        plan = [("a", (), (), ())]
        for name, ahead in ("ba", "cb", "dc", "ed", "fe"):
            rows = tuple(("times", 8, "l" + letter, ahead, (), ()) for letter in "abcdefghijklmnopqrst")
            plan.append((name, (), (), rows))
        self.assertIsNone(look(plan))
        self.spreads(plan, [], [], [])

    def test_parts_that_are_not_asked_for(self):
        low = ("low", (("i", 1),), (), (wire_row("a", HIGH),))
        self.spreads([low, ("top", (), (("a", 2),), (wire_row("a", ("number", 2, 2), 2),))], [], [("a", 2)],
                     [wire_row("a", ("number", 2, 2), 2)])

    def test_rings(self):
        low = ("low", (("i", 1),), (("o", 1),), (wire_row("o", wired("i")),))
        self.spreads([low, ("top", (), (), (("part", "u", "low", (A,), ("a",)),))], [], [],
                     [wire_row("u.i", A), wire_row("u.o", wired("u.i")), wire_row("a", wired("u.o"))])

    def test_sizes_of_any_plan(self):
        rng = random.Random(11)
        for turn in range(80):
            plan = some_plan(rng, parts=rng.randint(1, 5))
            self.assertIsNone(look(plan))
            self.assertEqual(len(spread(plan)[2]), spread_size(plan, plan[-1])[0])


if __name__ == "__main__":
    unittest.main()
