"""Works: what is one, the numbers of knots and ends, and two works beside one another."""

from lampforge.words import is_between, is_whole


def is_work(thing):
    """Whether any thing is a work."""
    if not isinstance(thing, tuple) or len(thing) != 4 or not is_whole(thing[0]) or thing[0] < 0:
        return False
    if not all([isinstance(part, list) for part in thing[1:]]):
        return False
    knots = knots_in(thing)
    gate = knots - len(thing[2])
    for pair in thing[2]:
        if not is_pair(pair, gate):
            return False
        gate = gate + 1
    return all([is_box(box, knots) for box in thing[1]]) and all([is_end(end, knots) for end in thing[3]])


def knots_in(work):
    """How many knots a work has, the known one among them."""
    return 1 + work[0] + len(work[1]) + len(work[2])


def is_end(thing, knots):
    """Whether a thing is an end of one of so many knots."""
    return is_between(thing, 0, 2 * knots - 1)


def is_pair(thing, knots):
    """Whether a thing is a tuple of two ends of so many knots."""
    return isinstance(thing, tuple) and len(thing) == 2 and is_end(thing[0], knots) and is_end(thing[1], knots)


def is_box(thing, knots):
    """Whether a thing is a box of a work of so many knots."""
    return isinstance(thing, tuple) and len(thing) == 2 and is_between(thing[0], 0, 1) and is_end(thing[1], knots)


def beside(one, other):
    """Two works of as many ins in one, the ins shared, what the first has ahead of what the second has."""
    boxes = [(first, first_end(one, other, end)) for first, end in one[1]]
    boxes.extend([(first, second_end(one, other, end)) for first, end in other[1]])
    gates = [(first_end(one, other, a), first_end(one, other, b)) for a, b in one[2]]
    gates.extend([(second_end(one, other, a), second_end(one, other, b)) for a, b in other[2]])
    outs = [first_end(one, other, end) for end in one[3]]
    outs.extend([second_end(one, other, end) for end in other[3]])
    return (one[0], boxes, gates, outs)


def first_end(one, other, end):
    """What an end of the first of two works is, where they lie beside one another."""
    if end // 2 <= one[0] + len(one[1]):
        return end
    return end + 2 * len(other[1])


def second_end(one, other, end):
    """What an end of the second of two works is, where they lie beside one another."""
    if end // 2 <= other[0]:
        return end
    if end // 2 <= other[0] + len(other[1]):
        return end + 2 * len(one[1])
    return end + 2 * (len(one[1]) + len(one[2]))
