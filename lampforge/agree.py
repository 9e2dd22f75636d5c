"""The pass that makes boxes one that always agree, and boxes known that never change."""

from lampforge.bench import Bench
from lampforge.build import ends_on, gatewise_paper


def agree(work):
    """The work with fewer boxes, and the paper for both."""
    groups = settled_groups(work)
    built = built_by(work, groups)
    bench = built[0]
    ends = built[1]
    driven = {0: True}
    for place, box in enumerate(work[1]):
        if groups[place] not in driven:
            driven[groups[place]] = True
            bench.drive(ends[2 * (1 + work[0] + place)], ends[box[1]])
    new = bench.work([ends[end] for end in work[3]])
    return (new, gatewise_paper(work, new, ends))


def settled_groups(work):
    """For each box the number of its group: those of one group always agree, in group 0 with their firsts.

    Boxes of unlike firsts agree where they are contrary. At first all are held for agreeing; where by
    that some would go on unlike at a next beat, these are parted, until all go on as they are held.
    """
    groups = [0] * len(work[1])
    many = 0
    found = {(0, 0): 0}
    while len(found) != many:
        many = len(found)
        ends = built_by(work, groups)[1]
        found = {(0, 0): 0}
        parted = []
        for group, box in zip(groups, work[1]):
            # Turned by the first, so that boxes that agree come to the same end.
            key = (group, ends[box[1]] ^ box[0])
            if key not in found:
                found[key] = len(found)
            parted.append(found[key])
        groups = parted
    return groups


def built_by(work, groups):
    """A bench with a box for each group but 0, and what the ends of the work become on it."""
    bench = Bench(work[0])
    ends_by_group = {0: 0}
    boxes = []
    for group, box in zip(groups, work[1]):
        if group not in ends_by_group:
            ends_by_group[group] = bench.box(box[0]) ^ box[0]
        boxes.append(ends_by_group[group] ^ box[0])
    return (bench, ends_on(bench, work, boxes))
