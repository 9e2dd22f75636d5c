"""The pass that moves gates of two boxes ahead of them, each becoming a box."""

from lampforge.build import Sheet, box_pairs
from lampforge.nets import now_end, start_end, then_end
from lampforge.works import first_end, second_end


def moved(work):
    """The work with such gates moved, and the paper for both."""
    places = places_to_move(work)
    ends = ends_moved(work, places)
    boxes = [(first, ends[end]) for first, end in work[1]]
    gates = [(ends[gate[0]], ends[gate[1]]) for place, gate in enumerate(work[2]) if place not in places]
    for place in places:
        pair = work[2][place]
        first = first_of(work, pair[0]) & first_of(work, pair[1])
        # Its gate is the next one, behind ins, old and new boxes and the gates so far.
        boxes.append((first, 2 * (1 + work[0] + len(work[1]) + len(places) + len(gates))))
        gates.append((ends[driver_of(work, pair[0])], ends[driver_of(work, pair[1])]))
    new = (work[0], boxes, gates, [ends[end] for end in work[3]])
    return (new, paper_of_moved(work, new, ends, places))


def box_of(work, end):
    """The place of the box of an end, or None where it is of another knot."""
    box = end // 2 - 1 - work[0]
    return box if 0 <= box < len(work[1]) else None


def places_to_move(work):
    """By the places of the gates with ends of two unlike boxes how many such are ahead."""
    places = {}
    for place, gate in enumerate(work[2]):
        one = box_of(work, gate[0])
        other = box_of(work, gate[1])
        if one is not None and other is not None and one != other:
            places[place] = len(places)
    return places


def first_of(work, end):
    """The first bit of an end of a box."""
    return work[1][box_of(work, end)][0] ^ (end % 2)


def driver_of(work, end):
    """The end that an end of a box has the bit of at the next beat."""
    return work[1][box_of(work, end)][1] ^ (end % 2)


def ends_moved(work, places):
    """What the ends of a work become, where some gates become boxes behind the others."""
    before = 1 + work[0] + len(work[1])
    ends = list(range(2 * before))
    left = before + len(places)
    for place in range(len(work[2])):
        if place in places:
            ends.extend([2 * (before + places[place]), 2 * (before + places[place]) + 1])
        else:
            ends.extend([2 * left, 2 * left + 1])
            left = left + 1
    return ends


def paper_of_moved(work, new, ends, places):
    """The paper for a work and the one with some gates moved."""
    before = 1 + work[0] + len(work[1])
    pairs = box_pairs(work, ends)
    for place in places:
        pairs.append((2 * (before + place), ends[2 * (before + place)]))
    sheet = Sheet(work, new, pairs)
    for place, gate in enumerate(work[2]):
        sheet.show("stands", 2 * (before + place), ends[2 * (before + place)], gate)
    starts = []
    thens = []
    for place in places:
        gate = first_end(work, new, 2 * (before + place))
        box = second_end(work, new, ends[2 * (before + place)])
        starts.append(("stands", start_end(sheet.whole, gate), start_end(sheet.whole, box), ()))
        near = sheet.leaves_of([driver_of(work, end) for end in work[2][place]])
        leaves = tuple([now_end(sheet.whole, leaf) for leaf in near])
        thens.append(("stands", then_end(sheet.whole, gate), then_end(sheet.whole, box), leaves))
    return sheet.paper(starts, thens)
