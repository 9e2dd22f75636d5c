"""The pass that makes works lower: rows of ands are bound anew, the deepest ends last."""

from lampforge.build import Sheet, box_pairs
from lampforge.works import knots_in

MOST_UNDER = 64


def low(work):
    """The work with lower rows, and the paper for both."""
    shape = Lowered(work)
    within = knots_within(work)
    rows = []
    for knot in range(len(shape.deep), knots_in(work)):
        if not within[knot]:
            row = row_below(work, within, knot)
            rows.append(row)
            if len(row[1]) <= MOST_UNDER:
                shape.bind_low(row)
            else:
                shape.bind_alike(work, row)
    ends = shape.ends
    boxes = [(first, ends[end]) for first, end in work[1]]
    new = (work[0], boxes, shape.gates, [ends[end] for end in work[3]])
    return (new, paper_of_rows(work, new, ends, rows))


def knots_within(work):
    """For each knot whether it is a gate that has one place alone, unturned in a gate: it lies in that one's row."""
    first = 1 + work[0] + len(work[1])
    places = [0] * knots_in(work)
    for gate in work[2]:
        for end in gate:
            # A turned end counts as more than one place, and so do boxes and outs: none of these binds a row.
            places[end // 2] = places[end // 2] + 1 + end % 2
    for end in [box[1] for box in work[1]] + work[3]:
        places[end // 2] = places[end // 2] + 2
    return [knot >= first and count == 1 for knot, count in enumerate(places)]


def row_below(work, within, knot):
    """The gates' knots of the row of a gate, from the lowest number on, and the ends under it."""
    first = 1 + work[0] + len(work[1])
    knots = []
    under = []
    waiting = [knot]
    while len(waiting) > 0:
        gate = waiting.pop()
        knots.append(gate)
        for end in work[2][gate - first]:
            # One that lies within has this place alone, and is unturned here.
            if within[end // 2]:
                waiting.append(end // 2)
            else:
                under.append(end)
    return (sorted(knots), under)


class Lowered:
    """The gates of the new work, and what the ends of the work ahead become."""

    def __init__(self, work):
        first = 1 + work[0] + len(work[1])
        self.gates = []
        self.deep = [0] * first
        self.ends = list(range(2 * first)) + [None] * (2 * len(work[2]))

    def add_gate(self, one, other):
        """The end of a new gate."""
        self.gates.append((one, other))
        self.deep.append(1 + max(self.deep[one // 2], self.deep[other // 2]))
        return 2 * (len(self.deep) - 1)

    def set_ends(self, knot, end):
        """Notes what the ends of a knot become."""
        self.ends[2 * knot] = end
        self.ends[2 * knot + 1] = end ^ 1

    def bind_low(self, row):
        """Binds the ends under a row so that its gate lies as low as can be."""
        deep = self.deep
        ends = sorted([self.ends[end] for end in row[1]], key=lambda end: deep[end // 2])
        while len(ends) > 1:
            # Always the two lowest: no other way comes to a lesser depth.
            bound = self.add_gate(ends[0], ends[1])
            rest = ends[2:]
            lower = [end for end in rest if deep[end // 2] < deep[bound // 2]]
            ends = lower + [bound] + rest[len(lower):]
        self.set_ends(row[0][-1], ends[0])

    def bind_alike(self, work, row):
        """Binds a row as it was."""
        first = 1 + work[0] + len(work[1])
        for knot in row[0]:
            gate = work[2][knot - first]
            self.set_ends(knot, self.add_gate(self.ends[gate[0]], self.ends[gate[1]]))


def paper_of_rows(work, new, ends, rows):
    """The paper for a work and one with other rows, row by row."""
    first = 1 + work[0] + len(work[1])
    sheet = Sheet(work, new, box_pairs(work, ends))
    for knots, under in rows:
        if len(under) <= MOST_UNDER:
            sheet.show("row", 2 * knots[-1], ends[2 * knots[-1]], under)
        else:
            for knot in knots:
                sheet.show("stands", 2 * knot, ends[2 * knot], work[2][knot - first])
    return sheet.paper([], [])
