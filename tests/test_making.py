import copy
import random
import unittest

from lampforge.looks import look
from lampforge.making import made
from lampforge.runs import run_plan
from lampforge.works import is_work
from tests.things import (A, B, C, chain, ends_of_bits, plain_bits, some_beats, some_plan, some_saying, spread_size,
                          swapped, thirty_nine_and, wire_row, wired)


class MadeTest(unittest.TestCase):
    def makes(self, plan, beats):
        before = copy.deepcopy(plan)
        self.assertIsNone(look(plan))
        work = made(plan)
        self.assertTrue(is_work(work))
        ins, outs = plan[-1][1:3]
        self.assertEqual(work[0], sum(width for name, width in ins))
        self.assertEqual(len(work[3]), sum(width for name, width in outs))
        bits = [ends_of_bits(beat, ins) for beat in beats]
        due = [ends_of_bits(told, outs) for told in run_plan(plan, beats)]
        self.assertEqual(plain_bits(work, bits), due, plan)
        self.assertEqual(plan, before)
        return work

    def test_the_order_of_ins_and_outs(self):
        ports = (("a", 2), ("b", 3), ("c", 1))
        work = self.makes([("top", ports, (("b", 3), ("c", 1), ("a", 2)), ())], [[2, 5, 1], [1, 3, 0]])
        for place, due in enumerate((4, 5, 0, 1, 2, 3)):
            beat = [1 if at == place else 0 for at in range(6)]
            self.assertEqual(plain_bits(work, [beat]), [[1 if at == due else 0 for at in range(6)]])

    def test_each_word(self):
        rng = random.Random(1)
        for width in range(1, 9):
            sayings = [("not", A), ("and", A, B), ("or", A, B), ("odd", A, B), ("sum", A, B), ("less", A, B),
                       ("choice", C, A, B), A, ("number", 2 ** width - 1, width), ("number", 0, width)]
            sayings += [("up", k, A) for k in range(9)] + [("down", k, A) for k in range(9)]
            sayings += [("under", A, B), ("same", A, B), ("same", A, A), ("under", A, A)]
            sayings += [("join", A, ("cut", 0, more, B)) for more in range(1, 9 - width) if more <= width]
            sayings += [("join", ("cut", width - more, more, B), A) for more in range(1, 9 - width) if more <= width]
            sayings += [("cut", low, own, A) for low in range(width) for own in range(1, width - low + 1)]
            for k in range(1, min(width, 4) + 1):
                for own in (1, 3, 8):
                    numbers = tuple(rng.randrange(2 ** own) for place in range(2 ** k))
                    sayings.append(("table", own, numbers, ("cut", width - k, k, B)))
            ports = (("a", width), ("b", width), ("c", 1))
            beats = some_beats(rng, ports, 6) + [[0, 0, 0], [2 ** width - 1, 2 ** width - 1, 1], [0, 1, 1], [1, 0, 0]]
            for saying in sayings:
                own = self.width(saying, width)
                self.makes([("top", ports, (("w", own),), (wire_row("w", saying, own),))], beats)

    def width(self, saying, width):
        if saying[0] in ("under", "same"):
            return 1
        if saying[0] == "cut":
            return saying[2]
        if saying[0] == "table":
            return saying[1]
        if saying[0] == "join":
            return sum(self.width(piece, width) for piece in saying[1:])
        return width

    def test_sayings_within_sayings(self):
        rng = random.Random(2)
        ports = (("a", 3), ("b", 1), ("c", 8), ("d", 5))
        for turn in range(150):
            width = rng.randint(1, 8)
            saying = some_saying(rng, width, dict(ports), 4)
            self.makes([("top", ports, (("w", width),), (wire_row("w", saying, width),))], some_beats(rng, ports, 8))

    def test_boxes_of_each_first(self):
        for width in (1, 2, 3, 8):
            for first in range(2 ** width) if width < 4 else (0, 1, 128, 170, 255):
                part = ("top", (("a", width),), (("s", width),), (("box", "s", width, first, ("sum", wired("s"), A)),))
                work = self.makes([part], [[1], [2 ** width - 1], [0], [1]])
                self.assertEqual([bit for bit, end in work[1]], [first // 2 ** place % 2 for place in range(width)])

    def test_boxes_that_read_one_another(self):
        rows = (("box", "x", 2, 1, wired("y")), ("box", "y", 2, 2, wired("z")), ("box", "z", 2, 3, ("not", wired("x"))))
        part = ("top", (), (("x", 2), ("y", 2), ("z", 2)), rows)
        work = self.makes([part], [[]] * 7)
        self.assertEqual([bit for bit, end in work[1]], [1, 0, 0, 1, 1, 1])

    def test_no_ins_no_outs(self):
        self.makes([("top", (), (), ())], [[], []])
        self.makes([("top", (("a", 3),), (), (("box", "b", 3, 5, A),))], [[1], [2]])
        self.makes([("top", (), (("b", 3),), (("box", "b", 3, 5, ("not", B)),))], [[], [], []])

    def test_rows_in_any_order(self):
        rows = [wire_row("d", ("not", wired("e")), 2), wire_row("e", ("sum", wired("f"), A), 2),
                wire_row("f", ("less", wired("g"), A), 2), ("box", "g", 2, 3, wired("d"))]
        rng = random.Random(3)
        for turn in range(10):
            rng.shuffle(rows)
            self.makes([("top", (("a", 2),), (("d", 2), ("g", 2)), tuple(rows))], [[1], [2], [3], [0], [1]])

    def test_any_plan(self):
        rng = random.Random(4)
        for turn in range(150):
            plan = some_plan(rng, parts=rng.randint(1, 5))
            self.makes(plan, some_beats(rng, plan[-1][1], 5))

    def test_the_bounds(self):
        # Sixty rows by copies of seven, and four more.
        low = ("low", (("i", 8),), (("o", 8),),
               tuple(wire_row(name, ("sum", wired(ahead), wired(ahead)), 8) for name, ahead in ("oa", "ab", "bc", "cd"))
               + (("box", "d", 8, 7, ("sum", wired("i"), wired("d"))),))
        rows = (("times", 8, "t", "low", (A,), ("x",)), ("part", "u", "low", (wired("x"),), ("y",)),
                wire_row("z", ("sum", wired("y"), A), 8), ("box", "k", 8, 1, wired("z")), wire_row("m", wired("k"), 8))
        plan = [low, ("top", (("a", 8),), (("z", 8), ("m", 8)), rows)]
        self.assertEqual(spread_size(plan, plan[-1])[0], 59)
        plan[-1] = swapped(plan[-1], 3, rows + (wire_row("n", wired("m"), 8),))
        self.makes(plan, [[1], [200], [3]])
        # Two hundred pieces.
        rows = tuple(wire_row("w" + letter, thirty_nine_and(wired(letter)), 2) for letter in "abcd")
        rows += (wire_row("wx", chain(6)[1], 1), wire_row("wy", chain(6), 1), wire_row("wz", ("odd", A, chain(6)), 1))
        plan = [("top", (("a", 1), ("b", 1), ("c", 1), ("d", 1)), (("wa", 2), ("wd", 2), ("wz", 1)), rows[:-1])]
        self.assertEqual(spread_size(plan, plan[-1])[1], 171)
        plan[-1] = swapped(plan[-1], 3, rows[:-1] + tuple(wire_row("v" + letter, chain(6), 1) for letter in "abcd"))
        plan[-1] = swapped(plan[-1], 3, plan[-1][3] + (wire_row("ve", chain(5)), ))
        self.assertEqual(spread_size(plan, plan[-1])[1], 200)
        plan[-1] = swapped(plan[-1], 2, (("wa", 2), ("wd", 2), ("ve", 1)))
        self.makes(plan, some_beats(random.Random(5), plan[-1][1], 16))

    def test_ins_and_outs_of_sixty_four_bits(self):
        ports = tuple((letter, 8) for letter in "abcdefgh")
        rows = tuple(wire_row("s" + letter, ("sum", wired(letter), wired(later)), 8) for letter, later in
                     zip("abcdefgh", "bcdefgha"))
        part = ("top", ports, tuple(("s" + letter, 8) for letter in "abcdefgh"), rows)
        self.makes([part], some_beats(random.Random(6), ports, 10))

    def test_the_lists_are_the_askers_own(self):
        plan = [("top", (("a", 2),), (("b", 2),), (("box", "b", 2, 1, ("sum", A, B)),))]
        first = made(plan)
        for part in first[1:]:
            part.append(None)
        self.assertTrue(is_work(made(plan)))


if __name__ == "__main__":
    unittest.main()
