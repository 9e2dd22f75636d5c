"""The pass that leaves out gates that are like others, as far as a small work lets all stands be looked at."""

from lampforge.beats import bits_of_ends
from lampforge.bench import both_without_gate
from lampforge.build import Sheet, box_pairs
from lampforge.known import known
from lampforge.many import all_stands

MOST_LEAVES = 6


def like(work):
    """The work without such gates, and the paper for both."""
    leaves = work[0] + len(work[1])
    if leaves > MOST_LEAVES:
        return known(work)
    found = like_ends(work)
    ends = found[0]
    boxes = [(first, ends[end]) for first, end in work[1]]
    new = (work[0], boxes, found[1], [ends[end] for end in work[3]])
    sheet = Sheet(work, new, box_pairs(work, ends))
    every = tuple([2 * knot for knot in range(1, leaves + 1)])
    knot = leaves + 1
    for gate in work[2]:
        near = gate if is_near(ends, gate, ends[2 * knot], new) else every
        sheet.show("stands", 2 * knot, ends[2 * knot], near)
        knot = knot + 1
    return (new, sheet.paper([], []))


def like_ends(work):
    """What the ends of a work become, each by its bits in all stands of ins and boxes, and the gates left."""
    leaves = work[0] + len(work[1])
    stands = all_stands(leaves)
    high = stands[1]
    bits = bits_of_ends(work, stands[0][work[0]:], stands[0][:work[0]], high)
    ends = list(range(2 + 2 * leaves))
    ends_by_bits = {}
    for end in ends:
        ends_by_bits[bits[end]] = end
    gates = []
    for knot in range(leaves + 1, leaves + 1 + len(work[2])):
        if bits[2 * knot] not in ends_by_bits:
            new = 2 * (leaves + 1 + len(gates))
            gate = work[2][knot - leaves - 1]
            gates.append((ends[gate[0]], ends[gate[1]]))
            ends_by_bits[bits[2 * knot]] = new
            ends_by_bits[high ^ bits[2 * knot]] = new + 1
        end = ends_by_bits[bits[2 * knot]]
        ends.extend([end, end ^ 1])
    return (ends, gates)


def is_near(ends, gate, end, new):
    """Whether a gate's end and what it becomes have their bits by the gate's ends alone."""
    one = ends[gate[0]]
    other = ends[gate[1]]
    if both_without_gate(one, other) == end:
        return True
    place = end // 2 - 1 - new[0] - len(new[1])
    return end % 2 == 0 and place >= 0 and new[2][place] in ((one, other), (other, one))
