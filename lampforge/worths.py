"""The worths of sayings."""

from lampforge.sayings import sayings_in, width_over
from lampforge.words import two_to


def worth(saying, widths, numbers):
    """The worth of a saying that has a width, by the widths and the numbers of its wires."""
    return measured(saying, widths, numbers)[1]


def measured(saying, widths, numbers):
    """The width and the worth of a saying, found in one walk."""
    word = saying[0]
    if word == "wire":
        return (widths[saying[1]], numbers[saying[1]])
    if word == "number":
        return (saying[2], saying[1])
    found = [measured(piece, widths, numbers) for piece in sayings_in(saying)]
    inner = [pair[0] for pair in found]
    worths = [pair[1] for pair in found]
    width = width_over(saying, inner)
    if word == "choice":
        return (width, worths[1] if worths[0] == 1 else worths[2])
    if word == "join":
        return (width, worths[0] + worths[1] * two_to(inner[0]))
    if len(worths) == 1:
        return (width, worth_of_one(saying, width, worths[0]))
    return (width, worth_of_two(word, width, worths[0], worths[1]))


def worth_of_one(saying, width, a):
    """The worth of a saying made of one saying that is worth a."""
    word = saying[0]
    if word == "not":
        return two_to(width) - 1 - a
    if word == "up":
        return a * two_to(saying[1]) % two_to(width)
    if word == "down":
        return a // two_to(saying[1])
    if word == "cut":
        return a // two_to(saying[1]) % two_to(width)
    return saying[2][a]


def worth_of_two(word, width, a, b):
    """The worth of a saying made of two sayings of one width that are worth a and b."""
    if word == "and":
        return a & b
    if word == "or":
        return a | b
    if word == "odd":
        return a ^ b
    if word == "sum":
        return (a + b) % two_to(width)
    if word == "less":
        return (a - b) % two_to(width)
    if word == "under":
        return 1 if a < b else 0
    return 1 if a == b else 0
