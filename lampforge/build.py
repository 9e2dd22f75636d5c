"""What the passes share: works built anew, and the papers written for them."""

from lampforge.classes import Classes
from lampforge.nets import now_end
from lampforge.works import beside, first_end, knots_in, second_end


def ends_on(bench, work, boxes):
    """By each end of a work the end of a bench that it becomes there, the boxes becoming the ends told."""
    ends = [0, 1]
    for place in range(work[0]):
        ends.extend([bench.into(place), bench.into(place) ^ 1])
    for box in boxes:
        ends.extend([box, box ^ 1])
    for one, other in work[2]:
        gate = bench.both(ends[one], ends[other])
        ends.extend([gate, gate ^ 1])
    return ends


class Sheet:
    """Writes a paper for a work and a new one, with the classes of ends as its steps make them.

    What is asked of it speaks of ends of the two works; what it writes, of ends of both beside one another.
    """

    def __init__(self, ahead, new, pairs):
        """The pairs are kept: an end of the work ahead, and one of the new work."""
        self.ahead = ahead
        self.new = new
        self.whole = beside(ahead, new)
        self.kept = [(first_end(ahead, new, one), second_end(ahead, new, other)) for one, other in pairs]
        self.classes = Classes(knots_in(self.whole))
        for one, other in self.kept:
            self.classes.join(one, other)
        self.steps = []

    def leaves_of(self, near):
        """Of ends of the work ahead those that may be leaves together, as ends of both."""
        seen = {0: True}
        leaves = []
        for end in near:
            leaf = first_end(self.ahead, self.new, end)
            knot = self.classes.least(leaf) // 2
            if knot not in seen:
                seen[knot] = True
                leaves.append(leaf)
        return tuple(leaves)

    def show(self, word, one, other, near):
        """Writes a step that an end of the work ahead is alike to one of the new work, by ends near to it."""
        left = first_end(self.ahead, self.new, one)
        right = second_end(self.ahead, self.new, other)
        if not self.classes.alike(left, right):
            self.steps.append((word, left, right, self.leaves_of(near)))
            self.classes.join(left, right)

    def paper(self, starts, thens):
        """The paper, with steps of the start net, and steps of the next net behind those of its first beat."""
        nexts = [step_now(self.whole, step) for step in self.steps]
        return (list(self.kept), list(starts), nexts + list(thens), list(self.steps))


def step_now(work, step):
    """A step of the now net as one of the next net's first beat."""
    leaves = tuple([now_end(work, leaf) for leaf in step[3]])
    return (step[0], now_end(work, step[1]), now_end(work, step[2]), leaves)


def box_pairs(work, ends):
    """The boxes of a work with what they become, by a list of what its ends become, None where nothing."""
    pairs = []
    for knot in range(1 + work[0], 1 + work[0] + len(work[1])):
        if ends[2 * knot] is not None:
            pairs.append((2 * knot, ends[2 * knot]))
    return pairs


def gatewise_paper(work, new, ends):
    """The paper of a pass that brings each gate to what the and of its ends becomes."""
    sheet = Sheet(work, new, box_pairs(work, ends))
    knot = 1 + work[0] + len(work[1])
    for gate in work[2]:
        if ends[2 * knot] is not None:
            sheet.show("stands", 2 * knot, ends[2 * knot], gate)
        knot = knot + 1
    return sheet.paper([], [])
