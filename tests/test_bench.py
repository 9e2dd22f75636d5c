import itertools
import random
import unittest

from lampforge.bench import Bench
from lampforge.sums import choice_row, less_row, same_end, sum_row, table_row, under_end
from lampforge.works import is_work
from lampforge.worths import worth
from tests.things import plain_beat, plain_bits


def bits_at(bench, outs, row):
    """The bits of ends of a bench that has no boxes, at a beat."""
    work = bench.work(outs)
    assert is_work(work)
    return plain_beat(work, [], row)[0]


def gates_of(bench):
    return len(bench.work([])[2])


class GateTest(unittest.TestCase):
    def test_ends_of_ins_and_known_ends(self):
        bench = Bench(3)
        ends = [bench.into(k) for k in range(3)]
        self.assertTrue(all(type(end) is int and end % 2 == 0 and end > 1 for end in ends))
        self.assertEqual(len(set(ends)), 3)
        for row in itertools.product((0, 1), repeat=3):
            told = bits_at(bench, [0, 1] + ends + [end + 1 for end in ends], list(row))
            self.assertEqual(told, [0, 1] + list(row) + [1 - bit for bit in row])

    def test_the_words_with_all_bits(self):
        words = (("both", lambda a, b: a * b), ("either", max), ("odd", lambda a, b: (a + b) % 2))
        for name, due in words:
            bench = Bench(2)
            near = [0, 1, bench.into(0), bench.into(0) + 1, bench.into(1), bench.into(1) + 1]
            for a, b in itertools.product(near, repeat=2):
                end = getattr(bench, name)(a, b)
                self.assertIs(type(end), int)
                for row in itertools.product((0, 1), repeat=2):
                    told = bits_at(bench, [a, b, end, end ^ 1], list(row))
                    self.assertEqual(told[2:], [due(*told[:2]), 1 - due(*told[:2])], (name, a, b))

    def test_choice_with_all_bits(self):
        bench = Bench(3)
        near = [0, 1] + [bench.into(k) + turn for k in range(3) for turn in (0, 1)]
        for c, a, b in itertools.product(near, repeat=3):
            end = bench.choice(c, a, b)
            for row in itertools.product((0, 1), repeat=3):
                told = bits_at(bench, [c, a, b, end, end ^ 1], list(row))
                due = told[1] if told[0] == 1 else told[2]
                self.assertEqual(told[3:], [due, 1 - due], (c, a, b))

    def test_ends_of_ends(self):
        rng = random.Random(1)
        for turn in range(30):
            bench = Bench(3)
            ends = {0: lambda row: 0, 1: lambda row: 1}
            for k in range(3):
                ends[bench.into(k)] = lambda row, k=k: row[k]
                ends[bench.into(k) + 1] = lambda row, k=k: 1 - row[k]
            dues = []
            for step in range(12):
                a, b, c = (rng.choice(sorted(ends)) for place in range(3))
                fa, fb, fc = ends[a], ends[b], ends[c]
                word = rng.choice(("both", "either", "odd", "choice"))
                if word == "choice":
                    end, due = bench.choice(c, a, b), lambda row, fa=fa, fb=fb, fc=fc: fa(row) if fc(row) else fb(row)
                elif word == "both":
                    end, due = bench.both(a, b), lambda row, fa=fa, fb=fb: fa(row) & fb(row)
                elif word == "either":
                    end, due = bench.either(a, b), lambda row, fa=fa, fb=fb: fa(row) | fb(row)
                else:
                    end, due = bench.odd(a, b), lambda row, fa=fa, fb=fb: fa(row) ^ fb(row)
                dues.append((end, due))
                ends.setdefault(end, due)
                ends.setdefault(end ^ 1, lambda row, due=due: 1 - due(row))
            for row in itertools.product((0, 1), repeat=3):
                told = bits_at(bench, [end for end, due in dues], list(row))
                self.assertEqual(told, [due(row) for end, due in dues])

    def test_each_word_adds_few_gates(self):
        bench = Bench(3)
        a, b, c = (bench.into(k) for k in range(3))
        for call in (lambda: bench.both(a, b), lambda: bench.either(b, c), lambda: bench.odd(a, c),
                     lambda: bench.choice(a, b, c)):
            before = gates_of(bench)
            call()
            self.assertLessEqual(gates_of(bench) - before, 50)


class BoxTest(unittest.TestCase):
    def test_ends_of_boxes(self):
        bench = Bench(1)
        ends = [bench.box(0), bench.box(1)]
        gate = bench.both(ends[0], bench.into(0))
        ends.append(bench.box(1))
        self.assertTrue(all(type(end) is int and end % 2 == 0 for end in ends))
        self.assertEqual(len({end // 2 for end in ends + [0, bench.into(0), gate]}), 6)

    def test_boxes_in_the_order_of_asking(self):
        bench = Bench(2)
        late = []
        firsts = (1, 0, 0, 1, 1)
        for place, first in enumerate(firsts):
            late.append(bench.box(first))
            bench.both(bench.into(place % 2), late[-1])
        for place in (3, 0, 4, 2, 1):
            self.assertIsNone(bench.drive(late[place], late[(place + 1) % 5] ^ 1))
        work = bench.work(late)
        self.assertEqual([first for first, end in work[1]], list(firsts))
        self.assertEqual(work[0], 2)
        self.assertEqual(work[3], [2 * (3 + place) for place in range(5)])
        self.assertEqual([end for first, end in work[1]], [2 * (3 + (place + 1) % 5) + 1 for place in range(5)])
        self.assertTrue(is_work(work))

    def test_boxes_never_driven_and_driven_by_themselves(self):
        bench = Bench(0)
        one, two, three = bench.box(1), bench.box(0), bench.box(1)
        bench.drive(two, two ^ 1)
        bench.drive(three, three)
        self.assertEqual(bench.work([one, two, three]), (0, [(1, 2), (0, 5), (1, 6)], [], [2, 4, 6]))
        self.assertEqual(plain_bits(bench.work([one, two, three]), [[]] * 3), [[1, 0, 1], [1, 1, 1], [1, 0, 1]])

    def test_boxes_driven_late_by_gates_and_known_ends(self):
        bench = Bench(1)
        box, high, low = bench.box(0), bench.box(0), bench.box(1)
        turn = bench.odd(box, bench.into(0))
        outs = [box, turn, high, low]
        self.assertEqual(plain_bits(bench.work(outs), [[1], [0], [1]]), [[0, 1, 0, 1], [0, 0, 0, 1], [0, 1, 0, 1]])
        bench.drive(box, turn)
        bench.drive(high, 1)
        bench.drive(low, 0)
        self.assertEqual(plain_bits(bench.work(outs), [[1], [0], [1]]), [[0, 1, 0, 1], [1, 1, 1, 0], [1, 0, 1, 0]])

    def test_a_work_asked_for_twice(self):
        bench = Bench(2)
        box = bench.box(1)
        gate = bench.both(bench.into(0), box)
        outs = [gate, 1]
        first = bench.work(outs)
        before = (first[0], list(first[1]), list(first[2]), list(first[3]))
        outs.append(0)
        self.assertEqual(bench.work([gate, 1]), before)
        other = bench.both(bench.into(1), bench.box(0) ^ 1)
        bench.drive(box, other)
        self.assertEqual(first, before)
        second = bench.work([gate, 1, other])
        for part in first[1:]:
            part.append(None)
        self.assertEqual(bench.work([gate, 1, other]), second)
        self.assertEqual(plain_bits(second, [[1, 1], [1, 0], [1, 1]]), [[1, 1, 1], [1, 1, 0], [0, 1, 1]])

    def test_two_benches(self):
        one, other = Bench(1), Bench(2)
        a, b = one.box(1), other.box(0)
        one.drive(a, one.into(0))
        other.drive(b, other.both(other.into(0), other.into(1)))
        self.assertEqual(one.work([a]), (1, [(1, 2)], [], [4]))
        self.assertEqual(plain_bits(other.work([b]), [[1, 1], [1, 0], [0, 0]]), [[0], [1], [0]])

    def test_nothing(self):
        self.assertEqual(Bench(0).work([]), (0, [], [], []))
        self.assertEqual(Bench(64).work([1, 0]), (64, [], [], [1, 0]))


def row_of_ins(bench, start, width):
    return [bench.into(start + place) for place in range(width)]


def number_of(bits):
    return sum(bit * 2 ** place for place, bit in enumerate(bits))


def numbers_to_try(width, rng):
    if width <= 3:
        return list(itertools.product(range(2 ** width), repeat=2))
    edge = (0, 1, 2 ** width - 1, 2 ** (width - 1), 2 ** (width - 1) - 1)
    more = [(rng.randrange(2 ** width), rng.randrange(2 ** width)) for turn in range(20)]
    return list(itertools.product(edge, repeat=2)) + more


def bits_of(number, width):
    return [number // 2 ** place % 2 for place in range(width)]


class RowTest(unittest.TestCase):
    def check_rows(self, call, word, ends):
        rng = random.Random(2)
        for width in range(1, 9):
            bench = Bench(2 * width)
            one, other = row_of_ins(bench, 0, width), row_of_ins(bench, width, width)
            kept = (list(one), list(other))
            before = gates_of(bench)
            told = call(bench, one, other)
            self.assertEqual((one, other), kept)
            if ends:
                self.assertIs(type(told), int)
                self.assertLessEqual(gates_of(bench) - before, 50 * 2 * width)
                told = [told]
            else:
                self.assertIs(type(told), list)
                self.assertEqual(len(told), width)
                self.assertLessEqual(gates_of(bench) - before, 50 * width)
            widths = {"a": width, "b": width}
            for a, b in numbers_to_try(width, rng):
                bits = bits_at(bench, told, bits_of(a, width) + bits_of(b, width))
                due = worth((word, ("wire", "a"), ("wire", "b")), widths, {"a": a, "b": b})
                self.assertEqual(number_of(bits), due, (word, a, b))
            if not ends:
                told.append(None)
                self.assertEqual(len(call(bench, one, other)), width)

    def test_sums(self):
        self.check_rows(sum_row, "sum", False)

    def test_less(self):
        self.check_rows(less_row, "less", False)

    def test_under(self):
        self.check_rows(under_end, "under", True)

    def test_same(self):
        self.check_rows(same_end, "same", True)

    def test_rows_of_known_ends_and_of_one_row_twice(self):
        rng = random.Random(3)
        for width in range(1, 9):
            bench = Bench(width)
            row = row_of_ins(bench, 0, width)
            near = [0, 1] + row + [end ^ 1 for end in row]
            for turn in range(8):
                one = [rng.choice(near) for place in range(width)]
                other = rng.choice((one, [end ^ 1 for end in one], [rng.choice(near) for place in range(width)]))
                told = [call(bench, one, other) for call in (sum_row, less_row)]
                ends = [under_end(bench, one, other), same_end(bench, one, other)]
                for number in (0, 2 ** width - 1, rng.randrange(2 ** width)):
                    bits = bits_at(bench, one + other + told[0] + told[1] + ends, bits_of(number, width))
                    a, b, total, rest = (number_of(bits[at * width:(at + 1) * width]) for at in range(4))
                    self.assertEqual(total, (a + b) % 2 ** width)
                    self.assertEqual(rest, (a - b) % 2 ** width)
                    self.assertEqual(bits[4 * width:], [int(a < b), int(a == b)])

    def test_choices(self):
        rng = random.Random(4)
        for width in range(1, 9):
            bench = Bench(2 * width + 1)
            one, other = row_of_ins(bench, 1, width), row_of_ins(bench, 1 + width, width)
            before = gates_of(bench)
            told = choice_row(bench, bench.into(0), one, other)
            self.assertIs(type(told), list)
            self.assertLessEqual(gates_of(bench) - before, 50 * width)
            for a, b in numbers_to_try(width, rng):
                for c in (0, 1):
                    bits = bits_at(bench, told, [c] + bits_of(a, width) + bits_of(b, width))
                    self.assertEqual(number_of(bits), a if c else b)
            self.assertEqual([bits_at(bench, choice_row(bench, c, one, other), [0] + bits_of(1, width) + bits_of(0, width))
                              for c in (0, 1)], [bits_of(0, width), bits_of(1, width)])

    def test_tables(self):
        rng = random.Random(5)
        for k in range(5):
            for width in range(1, 9):
                for numbers in ([rng.randrange(2 ** width) for place in range(2 ** k)], [0] * 2 ** k,
                                [2 ** width - 1] * 2 ** k, [place % 2 ** width for place in range(2 ** k)]):
                    bench = Bench(k)
                    row = row_of_ins(bench, 0, k)
                    kept = (list(numbers), list(row))
                    told = table_row(bench, width, numbers, row)
                    self.assertIs(type(told), list)
                    self.assertEqual(len(told), width)
                    self.assertLessEqual(gates_of(bench), 50 * width)
                    self.assertEqual((numbers, row), kept)
                    again = table_row(bench, width, tuple(numbers), row)
                    for place in range(2 ** k):
                        self.assertEqual(number_of(bits_at(bench, told, bits_of(place, k))), numbers[place])
                        self.assertEqual(number_of(bits_at(bench, again, bits_of(place, k))), numbers[place])

    def test_tables_by_known_and_like_ends(self):
        numbers = [9, 3, 4, 7, 1, 0, 15, 8]
        bench = Bench(1)
        near = [0, 1, bench.into(0), bench.into(0) ^ 1]
        for row in itertools.product(near, repeat=3):
            told = table_row(bench, 4, numbers, list(row))
            for bit in (0, 1):
                bits = bits_at(bench, list(row) + told, [bit])
                self.assertEqual(number_of(bits[3:]), numbers[number_of(bits[:3])])

    def test_rows_with_boxes_asked_for_in_between(self):
        bench = Bench(2)
        row = [bench.box(1), bench.into(0)]
        total = sum_row(bench, row, [bench.into(1), bench.box(0)])
        late = bench.box(1)
        more = less_row(bench, total, [late, 1])
        work = bench.work(total + more)
        self.assertEqual(plain_bits(work, [[1, 1]]), [bits_of((3 + 1) % 4, 2) + bits_of((0 - 3) % 4, 2)])
        self.assertEqual([first for first, end in work[1]], [1, 0, 1])


if __name__ == "__main__":
    unittest.main()
