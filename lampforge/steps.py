"""Steps: whether one is good, by a net and the classes of its ends."""

from lampforge.many import all_stands
from lampforge.works import is_end

MOST_LEAVES = {"stands": 6, "row": 64}

# What an end of a row comes to, if not to a set: sets are pairs of numbers, with a bit for each leaf
# in the first, for each leaf's contrary in the second.
LOW = "low"


def is_good(net, classes, step):
    """Whether any thing is a good step of a net, by the classes as they are."""
    if not is_step(net, classes, step):
        return False
    if step[0] == "stands":
        found = bits_of_both(net, classes, step)
    else:
        found = sets_of_both(net, classes, step)
    return found[0] is not None and found[0] == found[1]


def is_step(net, classes, thing):
    """Whether a thing is a step of a net."""
    if not isinstance(thing, tuple) or len(thing) != 4 or not isinstance(thing[3], tuple):
        return False
    if not isinstance(thing[0], str) or thing[0] not in MOST_LEAVES or len(thing[3]) > MOST_LEAVES[thing[0]]:
        return False
    knots = 1 + net[0] + len(net[1])
    if not all([is_end(end, knots) for end in thing[1:3] + thing[3]]):
        return False
    knots_of_leaves = [classes.least(leaf) // 2 for leaf in thing[3]]
    return 0 not in knots_of_leaves and len(set(knots_of_leaves)) == len(knots_of_leaves)


def bits_of_both(net, classes, step):
    """The bits of a step's two ends in all stands of its leaves, as one number each, or None."""
    stands = all_stands(len(step[3]))
    high = stands[1]
    given = {0: 0, 1: high}
    for leaf, bits in zip(step[3], stands[0]):
        given[classes.least(leaf)] = bits
        given[classes.least(leaf) ^ 1] = high ^ bits

    def turned(bits):
        return None if bits is None else high ^ bits
    return found_of(net, classes, given, step[1:3], turned, both_bits)


def both_bits(one, other):
    """The bits of a gate in all stands, by those of its ends."""
    return None if one is None or other is None else one & other


def sets_of_both(net, classes, step):
    """What a step's two ends come to: a set, low, or None for nothing."""
    given = {0: LOW, 1: (0, 0)}
    power = 1
    for leaf in step[3]:
        given[classes.least(leaf)] = (power, 0)
        given[classes.least(leaf) ^ 1] = (0, power)
        power = power * 2
    return found_of(net, classes, given, step[1:3], lambda come_to: None, both_sets)


def both_sets(one, other):
    """What a gate comes to, by what its ends come to."""
    if one == LOW or other == LOW:
        return LOW
    if one is None or other is None:
        return None
    leaves = one[0] | other[0]
    contraries = one[1] | other[1]
    return LOW if leaves & contraries != 0 else (leaves, contraries)


def found_of(net, classes, given, ends, turned, both):
    """What is found for some ends: what is given by their least ones, else by the gates' ends, else None."""
    found = {}
    gates = []
    waiting = list(ends)
    while len(waiting) > 0:
        end = waiting.pop()
        if end in found:
            continue
        found[end] = given.get(classes.least(end))
        if found[end] is None and end // 2 > net[0]:
            gates.append(end)
            waiting.extend(below(net, end))
    # Ends below a gate have lesser numbers, so each is settled behind all that it needs.
    for end in sorted(gates):
        things = [found[lesser] for lesser in below(net, end)]
        found[end] = turned(things[0]) if end % 2 == 1 else both(things[0], things[1])
    return [found[end] for end in ends]


def below(net, end):
    """The ends that tell an end of a gate: the gate's ends, or of a turned one its contrary."""
    return (end - 1,) if end % 2 == 1 else net[1][end // 2 - net[0] - 1]
