"""The small checker: papers looked at, step by step. It knows no pass."""

from lampforge.classes import Classes
from lampforge.errors import NoPair, NoPaper
from lampforge.nets import next_net, now_end, now_net, start_end, start_net, then_end
from lampforge.steps import is_good
from lampforge.works import beside, first_end, is_pair, knots_in, second_end


def look_paper(work, goals, paper):
    """None where a paper, any thing, shows that the ends of each goal are always alike; else it is refused."""
    if not isinstance(paper, tuple) or len(paper) != 4 or not all([isinstance(part, (list, tuple)) for part in paper]):
        raise NoPaper("paper", 0)
    kept = paper[0]
    for number, thing in enumerate(kept):
        if not is_pair(thing, knots_in(work)):
            raise NoPaper("kept", number)
    look_starts(work, kept, paper[1])
    look_nexts(work, kept, paper[2])
    look_nows(work, kept, goals, paper[3])


def look_starts(work, kept, steps):
    """Refuses where the kept pairs are not shown for the first beat."""
    classes = classes_of(start_net(work))
    take_steps(start_net(work), classes, steps, "start")
    for one, other in kept:
        if not classes.alike(start_end(work, one), start_end(work, other)):
            raise NoPaper("start", len(steps))


def look_nexts(work, kept, steps):
    """Refuses where the kept pairs are not shown for a next beat by those of the one ahead."""
    classes = classes_of(next_net(work))
    for number, pair in enumerate(kept):
        if not classes.join(now_end(work, pair[0]), now_end(work, pair[1])):
            raise NoPaper("kept", number)
    take_steps(next_net(work), classes, steps, "next")
    for one, other in kept:
        if not classes.alike(then_end(work, one), then_end(work, other)):
            raise NoPaper("next", len(steps))


def look_nows(work, kept, goals, steps):
    """Refuses where the goals are not shown by the kept pairs."""
    classes = classes_of(now_net(work))
    for one, other in kept:
        classes.join(one, other)
    take_steps(now_net(work), classes, steps, "now")
    for one, other in goals:
        if not classes.alike(one, other):
            raise NoPaper("now", len(steps))


def classes_of(net):
    """Classes for the knots of a net."""
    return Classes(1 + net[0] + len(net[1]))


def take_steps(net, classes, steps, where):
    """Takes steps in order, and refuses the first bad one."""
    for number, step in enumerate(steps):
        if not is_good(net, classes, step) or not classes.join(step[1], step[2]):
            raise NoPaper(where, number)


def look_pair(one, other):
    """Refuses two works that have not as many ins and outs."""
    if one[0] != other[0] or len(one[3]) != len(other[3]):
        raise NoPair("the works have not as many ins and outs")


def look_two(one, other, paper):
    """None where a paper, any thing, shows that two works always tell the same; else it is refused."""
    look_pair(one, other)
    goals = [(first_end(one, other, a), second_end(one, other, b)) for a, b in zip(one[3], other[3])]
    look_paper(beside(one, other), goals, paper)
