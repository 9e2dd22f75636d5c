"""The language's own runner: plans run beat by beat."""

from lampforge.looks import order_of
from lampforge.spread import spread
from lampforge.worths import worth


def run_plan(plan, beats):
    """What a plan that the looker lets by tells, beat by beat."""
    flat = spread(plan)
    rows = flat[2]
    widths = dict(flat[0])
    sayings = {}
    for row in rows:
        widths[row[1]] = row[2]
        sayings[row[1]] = row[-1]
    order = order_of(rows)
    boxes = [row for row in rows if row[0] == "box"]
    stand = dict([(row[1], row[3]) for row in boxes])
    told = []
    for numbers in beats:
        now = dict(stand)
        for port, number in zip(flat[0], numbers):
            now[port[0]] = number
        for name in order:
            now[name] = worth(sayings[name], widths, now)
        told.append([now[port[0]] for port in flat[1]])
        stand = dict([(row[1], worth(row[4], widths, now)) for row in boxes])
    return told
