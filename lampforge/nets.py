"""The three nets of a work, and what its ends become in them."""


def now_net(work):
    """The net of one beat: ins and boxes are leaves."""
    return (work[0] + len(work[1]), list(work[2]))


def start_net(work):
    """The net of the first beat: boxes are their firsts."""
    return (work[0], [(start_end(work, one), start_end(work, other)) for one, other in work[2]])


def next_net(work):
    """The net of two beats, one behind the other."""
    gates = [(now_end(work, one), now_end(work, other)) for one, other in work[2]]
    gates.extend([(then_end(work, one), then_end(work, other)) for one, other in work[2]])
    return (2 * work[0] + len(work[1]), gates)


def start_end(work, end):
    """What an end becomes in the start net."""
    box = end // 2 - work[0] - 1
    if box < 0:
        return end
    if box < len(work[1]):
        return work[1][box][0] ^ (end % 2)
    return end - 2 * len(work[1])


def now_end(work, end):
    """What an end becomes at the first beat of the next net."""
    if end // 2 <= work[0] + len(work[1]):
        return end
    return end + 2 * work[0]


def then_end(work, end):
    """What an end becomes at the second beat of the next net."""
    if end < 2:
        return end
    box = end // 2 - work[0] - 1
    if box < 0:
        return end + 2 * (work[0] + len(work[1]))
    if box < len(work[1]):
        return now_end(work, work[1][box][1]) ^ (end % 2)
    return end + 2 * (work[0] + len(work[2]))
