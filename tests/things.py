"""Things that several tests hand in: right ones by their kinds, and wrong ones; and plain ways to reckon."""

from lampforge.errors import ForgeError
from lampforge.sayings import wires_in
from lampforge.worths import worth

WORDS = ("wire", "number", "not", "and", "or", "odd", "sum", "less", "under", "same", "choice", "up", "down",
         "join", "cut", "table")

A = ("wire", "a")
B = ("wire", "b")
C = ("wire", "c")

# Things that are no name, no number, no tuple with something in it and no list of parts.
ODD = (None, True, False, -1, 10 ** 59, -10 ** 59, "", " ", "A", "a b", "\n", (), [], ((),), ([],), [[]], [()],
       (None,), [None], (True, False), (1, 2, 3), ["a"], ("a",), "a" * 20000, [["a"], ("b", [1])])

# By the kind of a thing: things that are of the kind, and things that are not.
RIGHT = {
    "name": ("a", "z", "q", "ab", "abcdefgh", "zzzzzzzz", "part", "box", "times", "in", "out", "end", "use"),
    "width": tuple(range(1, 9)),
    "k": tuple(range(0, 9)),
    "low": tuple(range(0, 8)),
    "many": tuple(range(1, 9)),
    "saying": (A, ("number", 0, 1), ("not", A), ("table", 1, (0, 1), A)),
}
WRONG = {
    "name": ODD + WORDS + (0, 1, 8, "abcdefghi", "aB", "a1", "1", "a-", "a_", "_a", "a.", "a\n", " a", "a "),
    "width": ODD + (0, 9, 10, "1", "8", "a", (1,), [1]),
    "k": ODD + (9, 10, "0", "8", "a", (0,), [0]),
    "low": ODD + (8, 9, "0", "7", "a", (0,), [0]),
    "many": ODD + (0, 9, 10, "1", "8", "a", (1,), [1]),
    "saying": ODD + (0, 1, "a", "wire", ["wire", "a"], ("wire",), ("wire", "wire"), (A,), [A], ("a", A)),
}


def nested(thing, deep):
    """A thing within lists and tuples by turns, so deep."""
    for step in range(deep):
        thing = (thing,) if step % 2 else [thing]
    return thing


def swapped(thing, place, other):
    """A tuple with another thing in a place."""
    return thing[:place] + (other,) + thing[place + 1:]


def chain(deep):
    """A saying that is nested so deep, of as many pieces."""
    saying = A
    for step in range(deep - 1):
        saying = ("not", saying)
    return saying


def tree(deep):
    """A saying of 2 ** deep - 1 pieces, each depth told by one and the same tuple."""
    saying = A
    for step in range(deep - 1):
        saying = ("and", saying, saying)
    return saying


def thirty_nine_and(last):
    """A saying, six deep, of thirty-nine pieces and those of another saying."""
    # 15 + 15 + 7 pieces, the choice of them, the join above it.
    return ("join", ("choice", tree(4), tree(4), tree(3)), last)


# Parts, plans and runs of plans.


def wire_row(name, saying, width=1):
    return ("wire", name, width, saying)


def wired(name):
    return ("wire", name)


def refused(case, kind, values, call, *arguments):
    """Whether a call is refused with just this kind, and with these values by name."""
    with case.assertRaises(ForgeError) as seen:
        call(*arguments)
    shown = repr(arguments)[-2000:]
    case.assertIs(type(seen.exception), kind, (values, shown))
    for name, value in values.items():
        case.assertEqual(getattr(seen.exception, name), value, shown)
        case.assertIs(type(getattr(seen.exception, name)), type(value))
    return seen.exception


def some_saying(rng, width, wires, deep):
    """Any saying of a width over wires (by names their widths), nested at most so deep."""
    same = [name for name in sorted(wires) if wires[name] == width]
    if deep <= 1 or rng.random() < 0.2:
        if same and rng.random() < 0.8:
            return ("wire", rng.choice(same))
        return ("number", rng.randrange(2 ** width), width)

    def inner(other):
        return some_saying(rng, other, wires, deep - 1)

    words = ["not", "and", "or", "odd", "sum", "less", "choice", "up", "down", "cut", "table"]
    words += ["under", "same"] * 2 if width == 1 else ["join"] * 2
    word = rng.choice(words)
    if word == "not":
        return (word, inner(width))
    if word in ("up", "down"):
        return (word, rng.randrange(9), inner(width))
    if word == "choice":
        return (word, inner(1), inner(width), inner(width))
    if word in ("under", "same"):
        other = rng.randrange(1, 9)
        return (word, inner(other), inner(other))
    if word == "join":
        low = rng.randrange(1, width)
        return (word, inner(low), inner(width - low))
    if word == "cut":
        low = rng.randrange(0, 9 - width)
        return (word, low, width, inner(rng.randrange(low + width, 9)))
    if word == "table":
        under = rng.randrange(1, 5)
        return (word, width, tuple(rng.randrange(2 ** width) for place in range(2 ** under)), inner(under))
    return (word, inner(width), inner(width))


def some_part(rng, name, ahead, deep=3, rows=4, widest=8):
    """Any part without rings that asks for parts ahead."""
    ins = tuple((letter, rng.randint(1, widest)) for letter in "abc"[:rng.randrange(4)])
    wires = dict(ins)
    boxes = [("box" + letter, rng.randint(1, widest)) for letter in "xyz"[:rng.randrange(4)]]
    wires.update(boxes)
    told = []
    for place in range(rng.randrange(rows + 1)):
        own = "w" + "abcdefgh"[place]
        inner = rng.choice(ahead) if ahead and rng.random() < 0.6 else None
        if inner is None:
            width = rng.randint(1, widest)
            told.append(("wire", own, width, some_saying(rng, width, wires, deep)))
            wires[own] = width
            continue
        sayings = tuple(some_saying(rng, width, wires, deep - 1) for port, width in inner[1])
        names = tuple(own + "abcdefgh"[at] for at in range(len(inner[2])))
        end = ("l" + own, inner[0], sayings, names)
        if [width for port, width in inner[1]] == [width for port, width in inner[2]]:
            told.append(("times", rng.randint(1, 3)) + end)
        else:
            told.append(("part",) + end)
        wires.update((at, port[1]) for at, port in zip(names, inner[2]))
    for box, width in boxes:
        told.append(("box", box, width, rng.randrange(2 ** width), some_saying(rng, width, wires, deep)))
    rng.shuffle(told)
    names = rng.sample(sorted(wires), min(len(wires), rng.randrange(4)))
    outs = tuple((out, wires[out]) for out in names)
    if rng.random() < 0.4:
        # Outs like the ins, so that a times row may ask for the part.
        outs = tuple(("t" + port, width) for port, width in ins)
        told.extend(("wire", "t" + port, width, some_saying(rng, width, wires, deep)) for port, width in ins)
    return (name, ins, outs, tuple(told))


def some_plan(rng, parts=3, **told):
    """Any plan that the looker is to let by."""
    while True:
        plan = []
        for name in ("one", "two", "three", "four", "five", "six")[:parts]:
            plan.append(some_part(rng, name, plan, **told))
        rows, pieces = spread_size(plan, plan[-1])
        if rows <= 60 and pieces <= 200:
            return plan


def some_beats(rng, ports, many):
    return [[rng.randrange(2 ** width) for name, width in ports] for beat in range(many)]


def pieces_of(saying):
    return 1 + sum(pieces_of(piece) for piece in saying[1:] if isinstance(piece, tuple) and piece
                   and isinstance(piece[0], str))


def spread_size(plan, part):
    """How many rows and pieces a part has when it is spread, by walking through all copies."""
    rows, pieces = 0, 0
    for row in part[3]:
        if row[0] in ("wire", "box"):
            rows, pieces = rows + 1, pieces + pieces_of(row[-1])
            continue
        inner = [other for other in plan if other[0] == row[-3]][0]
        for copy in range(row[1] if row[0] == "times" else 1):
            more = spread_size(plan, inner)
            rows, pieces = rows + len(inner[1]) + more[0], pieces + more[1]
            pieces += sum(map(pieces_of, row[-2])) if copy == 0 else len(inner[1])
        rows, pieces = rows + len(inner[2]), pieces + len(inner[2])
    return rows, pieces


class Copy:
    """One copy of a part, run without spreading: numbers are asked for where they are needed."""

    def __init__(self, plan, part, feeds):
        parts = {other[0]: other for other in plan}
        self.part, self.feeds, self.kids, self.rows, self.seen = part, feeds, [], {}, {}
        self.widths = dict(part[1])
        self.boxes = {row[1]: row[3] for row in part[3] if row[0] == "box"}
        for row in part[3]:
            if row[0] in ("wire", "box"):
                self.rows[row[1]] = row
                self.widths[row[1]] = row[2]
                continue
            inner = parts[row[-3]]
            told = [self.reader(saying) for saying in row[-2]]
            for copy in range(row[1] if row[0] == "times" else 1):
                kid = Copy(plan, inner, dict(zip([port for port, width in inner[1]], told)))
                self.kids.append(kid)
                told = [kid.teller(port) for port, width in inner[2]]
            for name, port, tell in zip(row[-1], inner[2], told):
                self.rows[name] = ("kid", tell)
                self.widths[name] = port[1]

    def reader(self, saying):
        return lambda: self.worth(saying)

    def teller(self, name):
        return lambda: self.number(name)

    def worth(self, saying):
        return worth(saying, self.widths, {name: self.number(name) for name in wires_in(saying)})

    def number(self, name):
        if name not in self.seen:
            if name in self.feeds:
                self.seen[name] = self.feeds[name]()
            elif self.rows[name][0] == "box":
                self.seen[name] = self.boxes[name]
            elif self.rows[name][0] == "kid":
                self.seen[name] = self.rows[name][1]()
            else:
                self.seen[name] = self.worth(self.rows[name][3])
        return self.seen[name]

    def copies(self):
        return [self] + [copy for kid in self.kids for copy in kid.copies()]


def plain_run(plan, beats):
    """The run of a plan, part within part, without spreading it."""
    part = plan[-1]
    now = {}
    top = Copy(plan, part, {name: (lambda name=name: now[name]) for name, width in part[1]})
    told = []
    for beat in beats:
        now.update(zip([name for name, width in part[1]], beat))
        for copy in top.copies():
            copy.seen = {}
        told.append([top.number(name) for name, width in part[2]])
        later = [{box: copy.worth(copy.rows[box][4]) for box in copy.boxes} for copy in top.copies()]
        for copy, boxes in zip(top.copies(), later):
            copy.boxes = boxes
    return told


# Works and runs of works.


def some_work(rng, ins, boxes, gates, outs, near=None):
    """Any work of so many things; with `near`, ends of gates are of one of so many knots ahead."""
    knots = 1 + ins + boxes + gates
    told = []
    for place in range(gates):
        own = 1 + ins + boxes + place
        low = 0 if near is None else max(0, own - near)
        told.append((rng.randrange(2 * low, 2 * own), rng.randrange(2 * low, 2 * own)))
    kept = [(rng.randrange(2), rng.randrange(2 * knots)) for box in range(boxes)]
    return (ins, kept, told, [rng.randrange(2 * knots) for out in range(outs)])


def some_bits(rng, ins, many):
    return [[rng.randrange(2) for place in range(ins)] for beat in range(many)]


def plain_beat(work, stand, row):
    """The outs and the next stand, each knot's bit by what the document says of it."""
    ins, boxes, gates, outs = work
    bits = {0: 0}
    for place, bit in enumerate(list(row) + list(stand)):
        bits[1 + place] = bit
    for place, (one, other) in enumerate(gates):
        high = all((bits[end // 2] == 1) != (end % 2 == 1) for end in (one, other))
        bits[1 + ins + len(boxes) + place] = 1 if high else 0

    def bit_of(end):
        return bits[end // 2] if end % 2 == 0 else 1 - bits[end // 2]
    return [bit_of(end) for end in outs], [bit_of(end) for first, end in boxes]


def plain_bits(work, beats):
    """The run of a work."""
    stand = [first for first, end in work[1]]
    told = []
    for row in beats:
        outs, stand = plain_beat(work, stand, row)
        told.append(outs)
    return told


def ends_of_bits(numbers, ports):
    """The bits of numbers of told widths, each one's lowest first."""
    return [number // 2 ** place % 2 for number, (name, width) in zip(numbers, ports) for place in range(width)]
