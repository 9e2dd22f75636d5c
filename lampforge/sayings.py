"""Sayings: what they are, the wires in them, and their widths."""

from lampforge.words import FORMS, MOST_WIDTH, is_between, is_name, is_number, is_width, is_word, two_to

MOST_PIECES = 40
MOST_DEEP = 6
MOST_SHIFT = 8
MOST_LOW = 7
TABLE_SIZES = (2, 4, 8, 16)
MOST_TABLE_WIDTH = 4


def is_saying(thing):
    """Whether any thing is a saying."""
    # Depth by depth: the counts stop the walk before a tuple that stands in many places
    # can make it long.
    level = [thing]
    deep = 0
    pieces = 0
    while len(level) > 0:
        deep = deep + 1
        pieces = pieces + len(level)
        if deep > MOST_DEEP or pieces > MOST_PIECES:
            return False
        below = []
        for piece in level:
            if not is_formed(piece):
                return False
            below.extend(sayings_in(piece))
        level = below
    return True


def is_formed(thing):
    """Whether a thing has the form of a saying, whatever stands in the places of its sayings."""
    if not isinstance(thing, tuple) or len(thing) == 0 or not is_word(thing[0]):
        return False
    word = thing[0]
    if len(thing) != FORMS[word][0]:
        return False
    if word == "wire":
        return is_name(thing[1])
    if word == "number":
        return is_number(thing[1], thing[2])
    if word in ("up", "down"):
        return is_between(thing[1], 0, MOST_SHIFT)
    if word == "cut":
        return is_between(thing[1], 0, MOST_LOW) and is_width(thing[2])
    if word == "table":
        return are_numbers(thing[2], thing[1])
    return True


def are_numbers(thing, width):
    """Whether a thing is a tuple of numbers of a width, as many as a table may have."""
    if not isinstance(thing, tuple) or len(thing) not in TABLE_SIZES:
        return False
    return all([is_number(number, width) for number in thing])


def sayings_in(saying):
    """The sayings that a saying is made of, in the order of writing."""
    return saying[FORMS[saying[0]][1]:]


def wires_in(saying):
    """The names of the wires, in the order of writing, as often as they stand."""
    if saying[0] == "wire":
        return [saying[1]]
    names = []
    for inner in sayings_in(saying):
        names.extend(wires_in(inner))
    return names


def width_of(saying, widths):
    """The width of a saying by a dict of widths of wires, or None."""
    word = saying[0]
    if word == "wire":
        return widths.get(saying[1])
    if word == "number":
        return saying[2]
    inner = [width_of(piece, widths) for piece in sayings_in(saying)]
    if None in inner:
        return None
    return width_over(saying, inner)


def width_over(saying, inner):
    """The width, or None, of a saying made of sayings that have the widths `inner`."""
    word = saying[0]
    if word in ("not", "up", "down"):
        return inner[0]
    if word == "join":
        both = inner[0] + inner[1]
        return both if both <= MOST_WIDTH else None
    if word == "cut":
        return saying[2] if saying[1] + saying[2] <= inner[0] else None
    if word == "table":
        fits = inner[0] <= MOST_TABLE_WIDTH and len(saying[2]) == two_to(inner[0])
        return saying[1] if fits else None
    if word == "choice":
        return inner[1] if inner[0] == 1 and inner[1] == inner[2] else None
    if inner[0] != inner[1]:
        return None
    return 1 if word in ("under", "same") else inner[0]
