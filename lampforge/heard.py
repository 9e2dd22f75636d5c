"""The pass that leaves out what no out hears."""

from lampforge.build import gatewise_paper
from lampforge.works import knots_in


def heard(work):
    """The work of just the boxes and gates that are heard, and the paper for both."""
    hears = heard_knots(work)
    before = 1 + work[0]
    between = before + len(work[1])
    ends = ends_left(work, hears)
    boxes = [(box[0], ends[box[1]]) for box, told in zip(work[1], hears[before:between]) if told]
    gates = [(ends[gate[0]], ends[gate[1]]) for gate, told in zip(work[2], hears[between:]) if told]
    new = (work[0], boxes, gates, [ends[end] for end in work[3]])
    return (new, gatewise_paper(work, new, ends))


def heard_knots(work):
    """For each knot whether an out hears it, or a heard box or gate."""
    hears = [False] * knots_in(work)
    waiting = [end // 2 for end in work[3]]
    while len(waiting) > 0:
        knot = waiting.pop()
        if not hears[knot]:
            hears[knot] = True
            waiting.extend([end // 2 for end in ends_heard_by(work, knot)])
    return hears


def ends_heard_by(work, knot):
    """The ends that a knot hears."""
    box = knot - 1 - work[0]
    if box < 0:
        return ()
    if box < len(work[1]):
        return work[1][box][1:]
    return work[2][box - len(work[1])]


def ends_left(work, hears):
    """By each end of a work what it becomes where the boxes and gates that are not heard are left out, or None."""
    ends = list(range(2 + 2 * work[0]))
    left = 1 + work[0]
    for told in hears[1 + work[0]:]:
        if told:
            ends.extend([2 * left, 2 * left + 1])
            left = left + 1
        else:
            ends.extend([None, None])
    return ends
