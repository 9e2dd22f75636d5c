"""How deep the gates of a work lie."""


def depths_of_knots(work):
    """The depths of all knots of a work, 0 for those that are no gates."""
    deep = [0] * (1 + work[0] + len(work[1]))
    for one, other in work[2]:
        deep.append(1 + max(deep[one // 2], deep[other // 2]))
    return deep


def depths(work):
    """The depths of the gates of a work, gate by gate."""
    return depths_of_knots(work)[1 + work[0] + len(work[1]):]


def way_down(work, knot):
    """A longest way down from a gate, as a list of gates' knots."""
    deep = depths_of_knots(work)
    before = 1 + work[0] + len(work[1])
    way = []
    while deep[knot] > 0:
        way.append(knot)
        gate = work[2][knot - before]
        knot = max(gate[0] // 2, gate[1] // 2, key=lambda below: deep[below])
    return way
