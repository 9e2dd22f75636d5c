"""Works made of plans."""

from lampforge.bench import Bench
from lampforge.looks import order_of
from lampforge.spread import spread
from lampforge.sums import choice_row, less_row, same_end, sum_row, table_row, turned, under_end
from lampforge.words import bits_of


def made(plan):
    """The work made of a plan that the looker lets by."""
    flat = spread(plan)
    bench = Bench(sum([port[1] for port in flat[0]]))
    boxes = [row for row in flat[2] if row[0] == "box"]
    ends = ends_of_ins(flat[0], bench)
    for row in boxes:
        ends[row[1]] = [bench.box(bit) for bit in bits_of(row[3], row[2])]
    sayings = dict([(row[1], row[-1]) for row in flat[2]])
    for name in order_of(flat[2]):
        ends[name] = row_of(sayings[name], ends, bench)
    for row in boxes:
        for box, end in zip(ends[row[1]], row_of(row[4], ends, bench)):
            bench.drive(box, end)
    outs = []
    for port in flat[1]:
        outs.extend(ends[port[0]])
    return bench.work(outs)


def ends_of_ins(ports, bench):
    """By the names of ins their ends on a bench."""
    ends = {}
    used = 0
    for name, width in ports:
        ends[name] = [bench.into(place) for place in range(used, used + width)]
        used = used + width
    return ends


def row_of(saying, ends, bench):
    """The row of ends that has the worth of a saying, by the rows of its wires."""
    word = saying[0]
    if word == "wire":
        return ends[saying[1]]
    if word == "number":
        # Ends 0 and 1 are low and high, so the bits are their own ends.
        return bits_of(saying[1], saying[2])
    last = row_of(saying[-1], ends, bench)
    if word in ("not", "up", "down", "cut", "table"):
        return row_of_one(saying, last, bench)
    if word == "choice":
        one = row_of(saying[2], ends, bench)
        return choice_row(bench, row_of(saying[1], ends, bench)[0], one, last)
    return row_of_two(word, row_of(saying[1], ends, bench), last, bench)


def row_of_one(saying, row, bench):
    """The row of a saying made of one saying, which has the row told."""
    word = saying[0]
    if word == "not":
        return turned(row)
    if word == "up":
        return ([0] * saying[1] + row)[:len(row)]
    if word == "down":
        return (row + [0] * saying[1])[saying[1]:]
    if word == "cut":
        return row[saying[1]:saying[1] + saying[2]]
    return table_row(bench, saying[1], saying[2], row)


def row_of_two(word, one, other, bench):
    """The row of a saying made of two sayings, which have the rows told."""
    if word == "join":
        return one + other
    if word == "sum":
        return sum_row(bench, one, other)
    if word == "less":
        return less_row(bench, one, other)
    if word == "under":
        return [under_end(bench, one, other)]
    if word == "same":
        return [same_end(bench, one, other)]
    if word == "and":
        return [bench.both(a, b) for a, b in zip(one, other)]
    if word == "or":
        return [bench.either(a, b) for a, b in zip(one, other)]
    return [bench.odd(a, b) for a, b in zip(one, other)]
