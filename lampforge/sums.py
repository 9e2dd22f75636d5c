"""Rows of ends on a bench, the lowest bit first: sums, choices, tables and their like."""


def next_carry(bench, a, b, carry):
    """An end that is 1 where at least two of three ends are."""
    return bench.either(bench.both(a, b), bench.both(carry, bench.either(a, b)))


def sum_with(bench, one, other, carry):
    """The sum of two rows and an end, as many ends as each has."""
    row = []
    for a, b in zip(one, other):
        row.append(bench.odd(bench.odd(a, b), carry))
        # The last carry is not told: no gates for it.
        if len(row) < len(one):
            carry = next_carry(bench, a, b, carry)
    return row


def turned(row):
    """The contraries of the ends of a row."""
    return [end ^ 1 for end in row]


def sum_row(bench, one, other):
    """The sum of two rows."""
    return sum_with(bench, one, other, 0)


def less_row(bench, one, other):
    """What is left of the first row when the second is taken from it."""
    return sum_with(bench, one, turned(other), 1)


def choice_row(bench, c, one, other):
    """The first row where c is 1, else the second."""
    return [bench.choice(c, a, b) for a, b in zip(one, other)]


def table_row(bench, width, numbers, row):
    """The number of a width at the place that a row tells, among 2 ** k numbers for a row of k ends."""
    told = []
    rest = list(numbers)
    for place in range(width):
        told.append(picked(bench, [number % 2 for number in rest], row))
        rest = [number // 2 for number in rest]
    return told


def picked(bench, bits, row):
    """The one of some ends that stands at the place that a row tells."""
    for end in row:
        bits = [bench.choice(end, odd, even) for even, odd in zip(bits[0::2], bits[1::2])]
    return bits[0]


def under_end(bench, one, other):
    """An end that is 1 where the number of the first row is less than that of the second."""
    carry = 1
    for a, b in zip(one, turned(other)):
        carry = next_carry(bench, a, b, carry)
    return carry ^ 1


def same_end(bench, one, other):
    """An end that is 1 where two rows have the same number."""
    same = 1
    for a, b in zip(one, other):
        same = bench.both(same, bench.odd(a, b) ^ 1)
    return same
