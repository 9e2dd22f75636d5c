"""Things that several tests hand in: right ones by their kinds, and wrong ones."""

WORDS = ("wire", "number", "not", "and", "or", "odd", "sum", "less", "under", "same", "choice", "up", "down",
         "join", "cut", "table")

A = ("wire", "a")
B = ("wire", "b")
C = ("wire", "c")

# Things that are no name, no number, no tuple with something in it and no list of parts.
ODD = (None, True, False, -1, 10 ** 59, -10 ** 59, "", " ", "A", "a b", "\n", (), [], ((),), ([],), [[]], [()],
       (None,), [None], (True, False), (1, 2, 3), ["a"], ("a",), "a" * 20000, [["a"], ("b", [1])])

# By the kind of a thing: things that are of the kind, and things that are not.
RIGHT = {
    "name": ("a", "z", "q", "ab", "abcdefgh", "zzzzzzzz", "part", "box", "times", "in", "out", "end", "use"),
    "width": tuple(range(1, 9)),
    "k": tuple(range(0, 9)),
    "low": tuple(range(0, 8)),
    "many": tuple(range(1, 9)),
    "saying": (A, ("number", 0, 1), ("not", A), ("table", 1, (0, 1), A)),
}
WRONG = {
    "name": ODD + WORDS + (0, 1, 8, "abcdefghi", "aB", "a1", "1", "a-", "a_", "_a", "a.", "a\n", " a", "a "),
    "width": ODD + (0, 9, 10, "1", "8", "a", (1,), [1]),
    "k": ODD + (9, 10, "0", "8", "a", (0,), [0]),
    "low": ODD + (8, 9, "0", "7", "a", (0,), [0]),
    "many": ODD + (0, 9, 10, "1", "8", "a", (1,), [1]),
    "saying": ODD + (0, 1, "a", "wire", ["wire", "a"], ("wire",), ("wire", "wire"), (A,), [A], ("a", A)),
}


def nested(thing, deep):
    """A thing within lists and tuples by turns, so deep."""
    for step in range(deep):
        thing = (thing,) if step % 2 else [thing]
    return thing


def swapped(thing, place, other):
    """A tuple with another thing in a place."""
    return thing[:place] + (other,) + thing[place + 1:]


def chain(deep):
    """A saying that is nested so deep, of as many pieces."""
    saying = A
    for step in range(deep - 1):
        saying = ("not", saying)
    return saying


def tree(deep):
    """A saying of 2 ** deep - 1 pieces, each depth told by one and the same tuple."""
    saying = A
    for step in range(deep - 1):
        saying = ("and", saying, saying)
    return saying


def thirty_nine_and(last):
    """A saying, six deep, of thirty-nine pieces and those of another saying."""
    # 15 + 15 + 7 pieces, the choice of them, the join above it.
    return ("join", ("choice", tree(4), tree(4), tree(3)), last)
