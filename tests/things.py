"""Things that several tests hand in: right ones by their kinds, and wrong ones; and plain ways to reckon."""

import copy
import itertools

from lampforge import nets
from lampforge.errors import ForgeError
from lampforge.papers import look_two
from lampforge.sayings import wires_in
from lampforge.works import beside, is_work
from lampforge.worths import worth

WORDS = ("wire", "number", "not", "and", "or", "odd", "sum", "less", "under", "same", "choice", "up", "down",
         "join", "cut", "table")

A = ("wire", "a")
B = ("wire", "b")
C = ("wire", "c")

# Things that are no name, no number, no tuple with something in it and no list of parts.
ODD = (None, True, False, -1, 10 ** 59, -10 ** 59, "", " ", "A", "a b", "\n", (), [], ((),), ([],), [[]], [()],
       (None,), [None], (True, False), (1, 2, 3), ["a"], ("a",), "a" * 20000, [["a"], ("b", [1])])

# By the kind of a thing: things that are of the kind, and things that are not.
RIGHT = {
    "name": ("a", "z", "q", "ab", "abcdefgh", "zzzzzzzz", "part", "box", "times", "in", "out", "end", "use"),
    "width": tuple(range(1, 9)),
    "k": tuple(range(0, 9)),
    "low": tuple(range(0, 8)),
    "many": tuple(range(1, 9)),
    "saying": (A, ("number", 0, 1), ("not", A), ("table", 1, (0, 1), A)),
}
WRONG = {
    "name": ODD + WORDS + (0, 1, 8, "abcdefghi", "aB", "a1", "1", "a-", "a_", "_a", "a.", "a\n", " a", "a "),
    "width": ODD + (0, 9, 10, "1", "8", "a", (1,), [1]),
    "k": ODD + (9, 10, "0", "8", "a", (0,), [0]),
    "low": ODD + (8, 9, "0", "7", "a", (0,), [0]),
    "many": ODD + (0, 9, 10, "1", "8", "a", (1,), [1]),
    "saying": ODD + (0, 1, "a", "wire", ["wire", "a"], ("wire",), ("wire", "wire"), (A,), [A], ("a", A)),
}


def nested(thing, deep):
    """A thing within lists and tuples by turns, so deep."""
    for step in range(deep):
        thing = (thing,) if step % 2 else [thing]
    return thing


def swapped(thing, place, other):
    """A tuple with another thing in a place."""
    return thing[:place] + (other,) + thing[place + 1:]


def chain(deep):
    """A saying that is nested so deep, of as many pieces."""
    saying = A
    for step in range(deep - 1):
        saying = ("not", saying)
    return saying


def tree(deep):
    """A saying of 2 ** deep - 1 pieces, each depth told by one and the same tuple."""
    saying = A
    for step in range(deep - 1):
        saying = ("and", saying, saying)
    return saying


def thirty_nine_and(last):
    """A saying, six deep, of thirty-nine pieces and those of another saying."""
    # 15 + 15 + 7 pieces, the choice of them, the join above it.
    return ("join", ("choice", tree(4), tree(4), tree(3)), last)


# Parts, plans and runs of plans.


def wire_row(name, saying, width=1):
    return ("wire", name, width, saying)


def wired(name):
    return ("wire", name)


def refused(case, kind, values, call, *arguments):
    """Whether a call is refused with just this kind, and with these values by name."""
    with case.assertRaises(ForgeError) as seen:
        call(*arguments)
    shown = repr(arguments)[-2000:]
    case.assertIs(type(seen.exception), kind, (values, shown))
    for name, value in values.items():
        case.assertEqual(getattr(seen.exception, name), value, shown)
        case.assertIs(type(getattr(seen.exception, name)), type(value))
    return seen.exception


def some_saying(rng, width, wires, deep):
    """Any saying of a width over wires (by names their widths), nested at most so deep."""
    same = [name for name in sorted(wires) if wires[name] == width]
    if deep <= 1 or rng.random() < 0.2:
        if same and rng.random() < 0.8:
            return ("wire", rng.choice(same))
        return ("number", rng.randrange(2 ** width), width)

    def inner(other):
        return some_saying(rng, other, wires, deep - 1)

    words = ["not", "and", "or", "odd", "sum", "less", "choice", "up", "down", "cut", "table"]
    words += ["under", "same"] * 2 if width == 1 else ["join"] * 2
    word = rng.choice(words)
    if word == "not":
        return (word, inner(width))
    if word in ("up", "down"):
        return (word, rng.randrange(9), inner(width))
    if word == "choice":
        return (word, inner(1), inner(width), inner(width))
    if word in ("under", "same"):
        other = rng.randrange(1, 9)
        return (word, inner(other), inner(other))
    if word == "join":
        low = rng.randrange(1, width)
        return (word, inner(low), inner(width - low))
    if word == "cut":
        low = rng.randrange(0, 9 - width)
        return (word, low, width, inner(rng.randrange(low + width, 9)))
    if word == "table":
        under = rng.randrange(1, 5)
        return (word, width, tuple(rng.randrange(2 ** width) for place in range(2 ** under)), inner(under))
    return (word, inner(width), inner(width))


def some_part(rng, name, ahead, deep=3, rows=4, widest=8):
    """Any part without rings that asks for parts ahead."""
    ins = tuple((letter, rng.randint(1, widest)) for letter in "abc"[:rng.randrange(4)])
    wires = dict(ins)
    boxes = [("box" + letter, rng.randint(1, widest)) for letter in "xyz"[:rng.randrange(4)]]
    wires.update(boxes)
    told = []
    for place in range(rng.randrange(rows + 1)):
        own = "w" + "abcdefgh"[place]
        inner = rng.choice(ahead) if ahead and rng.random() < 0.6 else None
        if inner is None:
            width = rng.randint(1, widest)
            told.append(("wire", own, width, some_saying(rng, width, wires, deep)))
            wires[own] = width
            continue
        sayings = tuple(some_saying(rng, width, wires, deep - 1) for port, width in inner[1])
        names = tuple(own + "abcdefgh"[at] for at in range(len(inner[2])))
        end = ("l" + own, inner[0], sayings, names)
        if [width for port, width in inner[1]] == [width for port, width in inner[2]]:
            told.append(("times", rng.randint(1, 3)) + end)
        else:
            told.append(("part",) + end)
        wires.update((at, port[1]) for at, port in zip(names, inner[2]))
    for box, width in boxes:
        told.append(("box", box, width, rng.randrange(2 ** width), some_saying(rng, width, wires, deep)))
    rng.shuffle(told)
    names = rng.sample(sorted(wires), min(len(wires), rng.randrange(4)))
    outs = tuple((out, wires[out]) for out in names)
    if rng.random() < 0.4:
        # Outs like the ins, so that a times row may ask for the part.
        outs = tuple(("t" + port, width) for port, width in ins)
        told.extend(("wire", "t" + port, width, some_saying(rng, width, wires, deep)) for port, width in ins)
    return (name, ins, outs, tuple(told))


def some_plan(rng, parts=3, **told):
    """Any plan that the looker is to let by."""
    while True:
        plan = []
        for name in ("one", "two", "three", "four", "five", "six")[:parts]:
            plan.append(some_part(rng, name, plan, **told))
        rows, pieces = spread_size(plan, plan[-1])
        if rows <= 60 and pieces <= 200:
            return plan


def some_beats(rng, ports, many):
    return [[rng.randrange(2 ** width) for name, width in ports] for beat in range(many)]


def pieces_of(saying):
    return 1 + sum(pieces_of(piece) for piece in saying[1:] if isinstance(piece, tuple) and piece
                   and isinstance(piece[0], str))


def spread_size(plan, part):
    """How many rows and pieces a part has when it is spread, by walking through all copies."""
    rows, pieces = 0, 0
    for row in part[3]:
        if row[0] in ("wire", "box"):
            rows, pieces = rows + 1, pieces + pieces_of(row[-1])
            continue
        inner = [other for other in plan if other[0] == row[-3]][0]
        for copy in range(row[1] if row[0] == "times" else 1):
            more = spread_size(plan, inner)
            rows, pieces = rows + len(inner[1]) + more[0], pieces + more[1]
            pieces += sum(map(pieces_of, row[-2])) if copy == 0 else len(inner[1])
        rows, pieces = rows + len(inner[2]), pieces + len(inner[2])
    return rows, pieces


class Copy:
    """One copy of a part, run without spreading: numbers are asked for where they are needed."""

    def __init__(self, plan, part, feeds):
        parts = {other[0]: other for other in plan}
        self.part, self.feeds, self.kids, self.rows, self.seen = part, feeds, [], {}, {}
        self.widths = dict(part[1])
        self.boxes = {row[1]: row[3] for row in part[3] if row[0] == "box"}
        for row in part[3]:
            if row[0] in ("wire", "box"):
                self.rows[row[1]] = row
                self.widths[row[1]] = row[2]
                continue
            inner = parts[row[-3]]
            told = [self.reader(saying) for saying in row[-2]]
            for copy in range(row[1] if row[0] == "times" else 1):
                kid = Copy(plan, inner, dict(zip([port for port, width in inner[1]], told)))
                self.kids.append(kid)
                told = [kid.teller(port) for port, width in inner[2]]
            for name, port, tell in zip(row[-1], inner[2], told):
                self.rows[name] = ("kid", tell)
                self.widths[name] = port[1]

    def reader(self, saying):
        return lambda: self.worth(saying)

    def teller(self, name):
        return lambda: self.number(name)

    def worth(self, saying):
        return worth(saying, self.widths, {name: self.number(name) for name in wires_in(saying)})

    def number(self, name):
        if name not in self.seen:
            if name in self.feeds:
                self.seen[name] = self.feeds[name]()
            elif self.rows[name][0] == "box":
                self.seen[name] = self.boxes[name]
            elif self.rows[name][0] == "kid":
                self.seen[name] = self.rows[name][1]()
            else:
                self.seen[name] = self.worth(self.rows[name][3])
        return self.seen[name]

    def copies(self):
        return [self] + [copy for kid in self.kids for copy in kid.copies()]


def plain_run(plan, beats):
    """The run of a plan, part within part, without spreading it."""
    part = plan[-1]
    now = {}
    top = Copy(plan, part, {name: (lambda name=name: now[name]) for name, width in part[1]})
    told = []
    for beat in beats:
        now.update(zip([name for name, width in part[1]], beat))
        for copy in top.copies():
            copy.seen = {}
        told.append([top.number(name) for name, width in part[2]])
        later = [{box: copy.worth(copy.rows[box][4]) for box in copy.boxes} for copy in top.copies()]
        for copy, boxes in zip(top.copies(), later):
            copy.boxes = boxes
    return told


# Works and runs of works.


def some_work(rng, ins, boxes, gates, outs, near=None):
    """Any work of so many things; with `near`, ends of gates are of one of so many knots ahead."""
    knots = 1 + ins + boxes + gates
    told = []
    for place in range(gates):
        own = 1 + ins + boxes + place
        low = 0 if near is None else max(0, own - near)
        told.append((rng.randrange(2 * low, 2 * own), rng.randrange(2 * low, 2 * own)))
    kept = [(rng.randrange(2), rng.randrange(2 * knots)) for box in range(boxes)]
    return (ins, kept, told, [rng.randrange(2 * knots) for out in range(outs)])


def some_bits(rng, ins, many):
    return [[rng.randrange(2) for place in range(ins)] for beat in range(many)]


def plain_beat(work, stand, row):
    """The outs and the next stand, each knot's bit by what the document says of it."""
    ins, boxes, gates, outs = work
    bits = {0: 0}
    for place, bit in enumerate(list(row) + list(stand)):
        bits[1 + place] = bit
    for place, (one, other) in enumerate(gates):
        high = all((bits[end // 2] == 1) != (end % 2 == 1) for end in (one, other))
        bits[1 + ins + len(boxes) + place] = 1 if high else 0

    def bit_of(end):
        return bits[end // 2] if end % 2 == 0 else 1 - bits[end // 2]
    return [bit_of(end) for end in outs], [bit_of(end) for first, end in boxes]


def plain_bits(work, beats):
    """The run of a work."""
    stand = [first for first, end in work[1]]
    told = []
    for row in beats:
        outs, stand = plain_beat(work, stand, row)
        told.append(outs)
    return told


def ends_of_bits(numbers, ports):
    """The bits of numbers of told widths, each one's lowest first."""
    return [number // 2 ** place % 2 for number, (name, width) in zip(numbers, ports) for place in range(width)]


# Papers, and whether they hold.


class PlainClasses:
    """Which ends are alike, by walking through all of them."""

    def __init__(self, knots):
        self.groups = {end: [end] for end in range(2 * knots)}

    def alike(self, one, other):
        return other in self.groups[one]

    def join(self, one, other):
        if self.alike(one, other ^ 1):
            return False
        if not self.alike(one, other):
            for left, right in ((one, other), (one ^ 1, other ^ 1)):
                group = self.groups[left] + self.groups[right]
                for end in group:
                    self.groups[end] = group
        return True

    def least(self, end):
        return min(self.groups[end])


def is_plain_step(net, classes, step):
    if type(step) is not tuple or len(step) != 4:
        return False
    word, one, other, leaves = step
    if type(word) is not str or word not in ("stands", "row") or type(leaves) is not tuple:
        return False
    if len(leaves) > (6 if word == "stands" else 64):
        return False
    if any(type(end) is not int or not 0 <= end < 2 * (1 + net[0] + len(net[1])) for end in (one, other) + leaves):
        return False
    for place, leaf in enumerate(leaves):
        near = (0, 1) + tuple(end ^ turn for end in leaves[:place] for turn in (0, 1))
        if any(classes.alike(leaf, end) for end in near):
            return False
    return True


def plain_good(net, classes, step):
    """Whether a thing is a good step, as the document says it, stand by stand."""
    if not is_plain_step(net, classes, step):
        return False
    word, one, other, leaves = step

    def gate_of(end):
        return net[1][end // 2 - net[0] - 1] if end // 2 > net[0] else None
    if word == "row":
        found = {}

        def comes_to(end):
            if end not in found:
                found[end] = set_of(end)
            return found[end]

        def set_of(end):
            if classes.alike(end, 0):
                return "low"
            if classes.alike(end, 1):
                return frozenset()
            for leaf in leaves:
                for turn in (0, 1):
                    if classes.alike(end, leaf ^ turn):
                        return frozenset([leaf ^ turn])
            if end % 2 == 1 or gate_of(end) is None:
                return None
            sets = [comes_to(below) for below in gate_of(end)]
            if "low" in sets:
                return "low"
            if None in sets:
                return None
            both = sets[0] | sets[1]
            return "low" if any(leaf ^ 1 in both for leaf in both) else both
        return comes_to(one) is not None and comes_to(one) == comes_to(other)
    for bits in itertools.product((0, 1), repeat=len(leaves)):
        found = {}

        def bit_of(end):
            if end not in found:
                found[end] = bit_at(end)
            return found[end]

        def bit_at(end):
            for turn in (0, 1):
                if classes.alike(end, turn):
                    return turn
                for leaf, bit in zip(leaves, bits):
                    if classes.alike(end, leaf ^ turn):
                        return bit ^ turn
            if gate_of(end) is None:
                return None
            below = [bit_of(ahead) for ahead in gate_of(end)]
            return None if None in below else (below[0] * below[1]) ^ (end % 2)
        if bit_of(one) is None or bit_of(one) != bit_of(other):
            return False
    return True


def plain_look(work, goals, paper):
    """None where a paper is let by, or where it fails and at which number."""
    if type(paper) is not tuple or len(paper) != 4 or any(type(part) not in (list, tuple) for part in paper):
        return ("paper", 0)
    kept, starts, nexts, nows = paper
    ends = range(2 * (1 + work[0] + len(work[1]) + len(work[2])))
    for number, pair in enumerate(kept):
        if type(pair) is not tuple or len(pair) != 2 or any(type(end) is not int or end not in ends for end in pair):
            return ("kept", number)

    def walk(net, steps, where, first, become, dues):
        classes = PlainClasses(1 + net[0] + len(net[1]))
        for number, (one, other) in enumerate(first):
            if not classes.join(one, other):
                return ("kept", number)
        for number, step in enumerate(steps):
            if not plain_good(net, classes, step) or not classes.join(step[1], step[2]):
                return (where, number)
        if any(not classes.alike(become(work, one), become(work, other)) for one, other in dues):
            return (where, len(steps))
        return None
    now = [(nets.now_end(work, one), nets.now_end(work, other)) for one, other in kept]
    return (walk(nets.start_net(work), starts, "start", [], nets.start_end, kept)
            or walk(nets.next_net(work), nexts, "next", now, nets.then_end, kept)
            or walk(nets.now_net(work), nows, "now", kept, lambda whole, end: end, goals))


def goals_of(one, other):
    """The outs of two works beside one another, out by out."""
    outs = beside(one, other)[3]
    return list(zip(outs[:len(one[3])], outs[len(one[3]):]))


def same_runs(one, other):
    """Whether two small works tell the same at each beat of each run, by walking through all joint stands."""
    seen = {tuple(tuple(first for first, end in work[1]) for work in (one, other))}
    waiting = sorted(seen)
    while waiting:
        stands = waiting.pop()
        for row in itertools.product((0, 1), repeat=one[0]):
            told = [plain_beat(work, stand, row) for work, stand in zip((one, other), stands)]
            if told[0][0] != told[1][0]:
                return False
            later = tuple(tuple(stand) for outs, stand in told)
            if later not in seen:
                seen.add(later)
                waiting.append(later)
    return True


def own_lists(thing):
    """All lists within a thing, itself too."""
    found = [thing] if type(thing) is list else []
    for piece in thing if type(thing) in (list, tuple) else ():
        found.extend(own_lists(piece))
    return found


def check_pass(case, call, work, beats, small=True):
    """What is asked of each pass; told is the new work."""
    before = copy.deepcopy(work)
    told = call(work)
    case.assertIs(type(told), tuple)
    case.assertEqual(len(told), 2)
    new, paper = told
    case.assertTrue(is_work(new))
    case.assertEqual((new[0], len(new[3])), (work[0], len(work[3])))
    case.assertEqual(plain_bits(new, beats), plain_bits(work, beats), work)
    case.assertEqual([type(part) for part in paper], [list] * 4)
    case.assertIsNone(look_two(work, new, paper))
    if small:
        case.assertIsNone(plain_look(beside(work, new), goals_of(work, new), paper))
        case.assertTrue(same_runs(work, new))
    lists = own_lists(told)
    case.assertEqual(len({id(thing) for thing in lists}), len(lists))
    case.assertFalse({id(thing) for thing in lists} & {id(thing) for thing in own_lists(work)})
    kept = copy.deepcopy(told)
    for thing in lists:
        thing.append(None)
    case.assertEqual(work, before)
    again = call(work)
    case.assertIsNone(look_two(work, again[0], again[1]))
    return kept[0]
