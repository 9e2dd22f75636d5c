import itertools
import unittest

from lampforge.sayings import width_of
from lampforge.worths import worth
from tests.things import A, B, C, tree


def bits_of(number, width):
    """The bits of a number, the lowest one first."""
    return [int(sign) for sign in reversed(bin(number)[2:].zfill(width))]


def number_of(bits):
    return sum(2 ** place for place, bit in enumerate(bits) if bit)


def edges(width):
    """Numbers of a width: all of them of the small ones, else the lowest, the highest and some between."""
    if width <= 3:
        return range(2 ** width)
    half = 2 ** (width - 1)
    return (0, 1, 2, half - 1, half, half + 1, 2 ** width - 2, 2 ** width - 1, 0x5A % 2 ** width)


class WorthTest(unittest.TestCase):
    def check(self, saying, widths, numbers, due):
        before = (dict(widths), dict(numbers))
        told = worth(saying, widths, numbers)
        self.assertEqual((widths, numbers), before)
        self.assertIs(type(told), int)
        self.assertEqual(told, due, (saying, widths, numbers))
        self.assertTrue(0 <= told < 2 ** width_of(saying, widths))

    def of_one(self):
        for width in range(1, 9):
            for a in edges(width):
                yield width, a

    def of_two(self):
        for width in range(1, 9):
            for a, b in itertools.product(edges(width), repeat=2):
                yield width, a, b

    def test_wires_and_numbers(self):
        for width, a in self.of_one():
            self.check(A, {"a": width, "b": 1}, {"a": a, "b": 1}, a)
            self.check(("number", a, width), {}, {}, a)

    def test_not(self):
        for width, a in self.of_one():
            due = number_of([1 - bit for bit in bits_of(a, width)])
            self.check(("not", A), {"a": width}, {"a": a}, due)

    def test_bit_by_bit(self):
        for width, a, b in self.of_two():
            pairs = list(zip(bits_of(a, width), bits_of(b, width)))
            due = {"and": [x == 1 and y == 1 for x, y in pairs], "or": [x == 1 or y == 1 for x, y in pairs],
                   "odd": [x + y == 1 for x, y in pairs]}
            for word, bits in due.items():
                self.check((word, A, B), {"a": width, "b": width}, {"a": a, "b": b}, number_of(bits))

    def test_sum_and_less(self):
        for width, a, b in self.of_two():
            widths, numbers = {"a": width, "b": width}, {"a": a, "b": b}
            total = a + b if a + b < 2 ** width else a + b - 2 ** width
            rest = a - b if a >= b else a - b + 2 ** width
            self.check(("sum", A, B), widths, numbers, total)
            self.check(("less", A, B), widths, numbers, rest)

    def test_beyond_the_width(self):
        widths = {"a": 4, "b": 4}
        self.check(("sum", A, B), widths, {"a": 15, "b": 15}, 14)
        self.check(("sum", A, B), widths, {"a": 15, "b": 1}, 0)
        self.check(("less", A, B), widths, {"a": 0, "b": 1}, 15)
        self.check(("less", A, B), widths, {"a": 0, "b": 15}, 1)

    def test_under_and_same(self):
        for width, a, b in self.of_two():
            widths, numbers = {"a": width, "b": width}, {"a": a, "b": b}
            self.check(("under", A, B), widths, numbers, 1 if a < b else 0)
            self.check(("same", A, B), widths, numbers, 1 if a == b else 0)

    def test_choice(self):
        for width, a, b in self.of_two():
            widths = {"a": width, "b": width, "c": 1}
            self.check(("choice", C, A, B), widths, {"a": a, "b": b, "c": 1}, a)
            self.check(("choice", C, A, B), widths, {"a": a, "b": b, "c": 0}, b)

    def test_up_and_down(self):
        for width, a in self.of_one():
            bits = bits_of(a, width)
            for k in range(9):
                up = ([0] * k + bits)[:width]
                self.check(("up", k, A), {"a": width}, {"a": a}, number_of(up))
                self.check(("down", k, A), {"a": width}, {"a": a}, number_of(bits[k:]))

    def test_join(self):
        for first in range(1, 8):
            for second in range(1, 9 - first):
                for a, b in itertools.product(edges(first), edges(second)):
                    due = number_of(bits_of(a, first) + bits_of(b, second))
                    self.check(("join", A, B), {"a": first, "b": second}, {"a": a, "b": b}, due)

    def test_joins_in_the_told_order(self):
        widths, numbers = {"a": 1, "b": 2, "c": 3}, {"a": 1, "b": 2, "c": 4}
        self.check(("join", A, ("join", B, C)), widths, numbers, 1 + 2 * 2 + 4 * 8)
        self.check(("join", ("join", C, B), A), widths, numbers, 4 + 2 * 8 + 1 * 32)

    def test_cut(self):
        for width, a in self.of_one():
            bits = bits_of(a, width)
            for low in range(width):
                for own in range(1, width - low + 1):
                    self.check(("cut", low, own, A), {"a": width}, {"a": a}, number_of(bits[low:low + own]))

    def test_table(self):
        for width in range(1, 5):
            numbers = tuple((place * 37 + 11) % 256 for place in range(2 ** width))
            for a in range(2 ** width):
                self.check(("table", 8, numbers, A), {"a": width}, {"a": a}, numbers[a])

    def test_table_at_the_first_and_the_last_place(self):
        numbers = (3,) + (0,) * 14 + (2,)
        self.check(("table", 2, numbers, A), {"a": 4}, {"a": 0}, 3)
        self.check(("table", 2, numbers, A), {"a": 4}, {"a": 15}, 2)

    def test_sayings_within_sayings(self):
        widths, numbers = {"a": 3, "b": 3, "c": 1}, {"a": 6, "b": 5, "c": 1}
        self.check(("sum", ("not", A), ("up", 1, B)), widths, numbers, (1 + 2) % 8)
        self.check(("choice", ("under", A, B), A, ("less", B, A)), widths, numbers, 7)
        self.check(("choice", ("not", C), A, ("cut", 1, 3, ("join", C, A))), widths, numbers, 6)
        self.check(("table", 5, (30, 31), ("same", A, ("sum", B, ("number", 1, 3)))), widths, numbers, 31)
        self.check(("not", ("under", A, B)), widths, numbers, 1)
        self.check(("join", ("same", A, A), ("join", ("under", B, A), A)), widths, numbers, 1 + 2 + 6 * 4)
        self.check(tree(5), widths, numbers, 6)

    def test_somewhat_beyond_the_bounds(self):
        self.check(("up", 9, A), {"a": 8}, {"a": 255}, 0)
        self.check(("down", 12, A), {"a": 8}, {"a": 255}, 0)
        self.check(("sum", A, A), {"a": 10}, {"a": 1023}, 1022)
        self.check(("cut", 8, 2, A), {"a": 10}, {"a": 0x3FF}, 3)
        deep = A
        for step in range(60):
            deep = ("not", deep)
        self.check(deep, {"a": 8}, {"a": 77}, 77)

    def test_wires_that_are_not_asked_for(self):
        self.check(("not", A), {"a": 2, "b": 8, "zz": 1}, {"a": 1, "b": 9, "x": 4}, 2)


if __name__ == "__main__":
    unittest.main()
