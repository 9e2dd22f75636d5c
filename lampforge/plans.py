"""Parts, rows and plans: what is one by its form alone."""

from lampforge.sayings import is_saying
from lampforge.words import is_between, is_name, is_number, is_width

MOST_PARTS = 6
MOST_PORTS = 8
MOST_ROWS = 20
MOST_TIMES = 8


def is_plan(thing):
    """Whether any thing is a plan."""
    if not isinstance(thing, list) or not 1 <= len(thing) <= MOST_PARTS:
        return False
    return all([is_part(part) for part in thing])


def is_part(thing):
    """Whether a thing is a part."""
    if not is_tuple_of(thing, 4) or not is_name(thing[0]):
        return False
    if not is_short(thing[1], MOST_PORTS) or not is_short(thing[2], MOST_PORTS) or not is_short(thing[3], MOST_ROWS):
        return False
    ports = thing[1] + thing[2]
    return all([is_port(port) for port in ports]) and all([is_row(row) for row in thing[3]])


def is_tuple_of(thing, many):
    """Whether a thing is a tuple of just so many things."""
    return isinstance(thing, tuple) and len(thing) == many


def is_short(thing, most):
    """Whether a thing is a tuple of at most so many things."""
    return isinstance(thing, tuple) and len(thing) <= most


def is_port(thing):
    """Whether a thing is an in or an out of a part."""
    return is_tuple_of(thing, 2) and is_name(thing[0]) and is_width(thing[1])


def is_row(thing):
    """Whether a thing is a row of a part."""
    if not isinstance(thing, tuple) or len(thing) == 0:
        return False
    if thing[0] == "wire":
        return len(thing) == 4 and is_port(thing[1:3]) and is_saying(thing[3])
    if thing[0] == "box":
        return len(thing) == 5 and is_port(thing[1:3]) and is_number(thing[3], thing[2]) and is_saying(thing[4])
    if thing[0] == "part":
        return is_use(thing[1:])
    if thing[0] == "times":
        return len(thing) == 6 and is_between(thing[1], 1, MOST_TIMES) and is_use(thing[2:])
    return False


def is_use(thing):
    """Whether a thing is a tuple of a label, a word, sayings and names, as part and times rows end."""
    if not is_tuple_of(thing, 4) or not is_name(thing[0]) or not is_name(thing[1]):
        return False
    if not is_short(thing[2], MOST_PORTS) or not is_short(thing[3], MOST_PORTS):
        return False
    return all([is_saying(saying) for saying in thing[2]]) and all([is_name(name) for name in thing[3]])
