"""Two works together: whether they are alike, or a shortest list of beats at which they part."""

from lampforge.beats import beat_by, first_stand
from lampforge.errors import NoPair
from lampforge.many import all_stands
from lampforge.papers import look_pair
from lampforge.words import bits_of, is_between

MOST_INS = 6


def look_small(one, other):
    """Refuses two works that have not as many ins and outs, or too many ins for all beats to be tried."""
    look_pair(one, other)
    if one[0] > MOST_INS:
        raise NoPair("the works have more than six ins")


def is_table(one, other, thing):
    """Whether any thing is a table of two works."""
    look_small(one, other)
    if not isinstance(thing, list) or not all([is_joint_stand(one, other, joint) for joint in thing]):
        return False
    known = dict([(joint, True) for joint in thing])
    if len(known) < len(thing) or first_joint_stand(one, other) not in known:
        return False
    for joint in thing:
        told = beats_from(one, other, joint)
        if told[0] != 0 or not all([later in known for number, later in told[1]]):
            return False
    return True


def is_joint_stand(one, other, thing):
    """Whether a thing is a tuple of a stand of each of two works, as tuples."""
    if not isinstance(thing, tuple) or len(thing) != 2:
        return False
    return is_stand(one, thing[0]) and is_stand(other, thing[1])


def is_stand(work, thing):
    """Whether a thing is a stand of a work, as a tuple."""
    if not isinstance(thing, tuple) or len(thing) != len(work[1]):
        return False
    return all([is_between(bit, 0, 1) for bit in thing])


def first_joint_stand(one, other):
    """The joint stand that two works begin with."""
    return (tuple(first_stand(one)), tuple(first_stand(other)))


def beats_from(one, other, joint):
    """What comes of all beats at a joint stand, a beat being known by a number, its bits those of the ins.

    Told are a number that has the bits of those beats at which the works part, and the joint stands that
    are come to, each with the least beat that leads there.
    """
    stands = all_stands(one[0])
    high = stands[1]
    left = beat_by(one, [bit * high for bit in joint[0]], stands[0], high)
    right = beat_by(other, [bit * high for bit in joint[1]], stands[0], high)
    parting = 0
    for a, b in zip(left[0], right[0]):
        parting = parting | (a ^ b)
    laters = []
    for beats in beats_apart(left[1] + right[1], high):
        later = (bits_among(left[1], beats), bits_among(right[1], beats))
        laters.append((least_beat(beats), later))
    return (parting, laters)


def beats_apart(numbers, high):
    """Beats in groups, those together that have the same bits in all numbers; a group is a number with their bits."""
    groups = [high]
    for number in numbers:
        parted = [group & number for group in groups] + [group & (high ^ number) for group in groups]
        groups = [group for group in parted if group != 0]
    return groups


def bits_among(numbers, beats):
    """The bits that numbers have at beats of one group."""
    return tuple([0 if number & beats == 0 else 1 for number in numbers])


def least_beat(beats):
    """The least beat of a group."""
    least = 0
    while beats % 2 == 0:
        beats = beats // 2
        least = least + 1
    return least


def meet(one, other, most):
    """("alike", table), ("part", parting), or ("open", most) where more than so many joint stands are come to."""
    look_small(one, other)
    # In the order in which they are come to, so that no shorter way leads to any of them.
    joints = [first_joint_stand(one, other)]
    came = {joints[0]: None}
    place = 0
    while place < len(joints):
        joint = joints[place]
        told = beats_from(one, other, joint)
        if told[0] != 0:
            numbers = way_to(came, joint) + [least_beat(told[0])]
            return ("part", [bits_of(number, one[0]) for number in numbers])
        for number, later in told[1]:
            if later not in came:
                if len(joints) >= most:
                    return ("open", most)
                came[later] = (joint, number)
                joints.append(later)
        place = place + 1
    return ("alike", joints)


def way_to(came, joint):
    """The beats that lead to a joint stand, by where each was come to from."""
    numbers = []
    while came[joint] is not None:
        numbers.append(came[joint][1])
        joint = came[joint][0]
    numbers.reverse()
    return numbers
