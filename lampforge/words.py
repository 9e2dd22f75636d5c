"""Whole numbers, names, widths and the words of sayings."""

MOST_LETTERS = 8
MOST_WIDTH = 8

# By each word of a saying: how many things the tuple has, the word among them, and the place
# of its first saying. In every form the sayings stand last.
FORMS = {
    "wire": (2, 2),
    "number": (3, 3),
    "not": (2, 1),
    "and": (3, 1),
    "or": (3, 1),
    "odd": (3, 1),
    "sum": (3, 1),
    "less": (3, 1),
    "under": (3, 1),
    "same": (3, 1),
    "choice": (4, 1),
    "up": (3, 2),
    "down": (3, 2),
    "join": (3, 1),
    "cut": (4, 3),
    "table": (4, 3),
}


def is_whole(thing):
    """Whether a thing is a whole number; True and False are none."""
    return isinstance(thing, int) and not isinstance(thing, bool)


def is_between(thing, low, high):
    """Whether a thing is a whole number from low to high."""
    return is_whole(thing) and low <= thing <= high


def is_word(thing):
    """Whether a thing is one of the words of sayings."""
    return isinstance(thing, str) and thing in FORMS


def is_name(thing):
    """Whether a thing is a name: one to eight small letters that are no word of a saying."""
    if not isinstance(thing, str) or is_word(thing):
        return False
    # The length goes ahead, for a text may be long.
    return 1 <= len(thing) <= MOST_LETTERS and all(["a" <= sign <= "z" for sign in thing])


def is_width(thing):
    """Whether a thing is a width."""
    return is_between(thing, 1, MOST_WIDTH)


def two_to(many):
    """Two times itself so many times: the first number beyond those of the width `many`."""
    power = 1
    for step in range(many):
        power = power * 2
    return power


def is_number(thing, width):
    """Whether a thing is a number of a width, and the width is one."""
    return is_width(width) and is_between(thing, 0, two_to(width) - 1)


def bits_of(number, width):
    """The bits of a number of a width, the lowest first."""
    bits = []
    for place in range(width):
        bits.append(number % 2)
        number = number // 2
    return bits
