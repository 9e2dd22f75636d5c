import copy
import random
import unittest

from lampforge.errors import Never, NoName, NoPart, NoPlan, NoWidth, Ring, TooMuch, Twice
from lampforge.looks import look, order_of
from lampforge.spread import spread
from tests.things import A, B, ODD, chain, nested, refused, some_plan, swapped, wire_row, wired

# Parts that the faults below may ask for: of ins and outs alike, of none, of unlike ones.
PASS = ("pass", (("i", 1), ("j", 2)), (("o", 1), ("p", 2)), (wire_row("o", wired("i")), wire_row("p", wired("j"), 2)))
NONE = ("none", (), (), ())
MORE = ("more", (("i", 1),), (("o", 1), ("p", 1)), (wire_row("o", wired("i")), wire_row("p", wired("i"))))
WIDE = ("wide", (("i", 1),), (("o", 2),), (wire_row("o", ("number", 3, 2), 2),))
AHEAD = [PASS, NONE, MORE, WIDE]

HIGH = ("number", 1, 1)
TWO = ("number", 2, 2)


class Fault:
    """What a fault brings to a part, and the refusal of it. Names hold the tag, so that faults don't meet."""

    def __init__(self, step, kind, name, ins=(), rows=(), at=0, outs=(), own=None):
        self.step, self.kind, self.name, self.own = step, kind, name, own
        self.ins, self.rows, self.at, self.outs = ins, rows, at, outs


def faults(tag):
    """Each fault that a part may have, by what it is called."""
    def called(letter):
        return letter + tag

    def use(word, sayings, names, label="l"):
        return ("part", called(label), word, sayings, tuple(called(name) for name in names))

    def times(word, sayings, names):
        return ("times", 2, called("l"), word, sayings, tuple(called(name) for name in names))

    a, label = called("a"), called("l")
    never, wide = wired(called("n")), ("number", 1, 2)
    return {
        "in twice": Fault(1, Twice, a, ins=((a, 1), (called("b"), 2), (a, 1))),
        "label twice": Fault(2, NoName, label, rows=(use("none", (), ()), use("none", (), ())), at=1),
        "wire twice": Fault(2, Twice, a, rows=(wire_row(a, HIGH), wire_row(a, HIGH)), at=1),
        "box twice": Fault(2, Twice, a, rows=(wire_row(a, HIGH), ("box", a, 1, 0, HIGH)), at=1),
        "wire and in": Fault(2, Twice, a, ins=((a, 1),), rows=(wire_row(a, HIGH),)),
        "name and in": Fault(2, Twice, a, ins=((a, 1),), rows=(use("pass", (HIGH, TWO), "ca"),)),
        "names twice": Fault(2, Twice, a, rows=(use("more", (HIGH,), "aa"),)),
        "times names twice": Fault(2, Twice, a, rows=(times("pass", (HIGH, TWO), "aa"),)),
        "no such part": Fault(3, NoPart, label, rows=(use("never", (), ()),)),
        "no such times": Fault(3, NoPart, label, rows=(times("never", (), ()),)),
        "the part itself": Fault(3, NoPart, label, rows=(use("top", (), ()),)),
        "a later part": Fault(3, NoPart, label, rows=(use("later", (), ()),)),
        "sayings too few": Fault(3, NoPart, label, rows=(use("pass", (HIGH,), "ab"),)),
        "sayings too many": Fault(3, NoPart, label, rows=(use("none", (HIGH,), ""),)),
        "names too few": Fault(3, NoPart, label, rows=(use("pass", (HIGH, TWO), "a"),)),
        "names too many": Fault(3, NoPart, label, rows=(use("none", (), "a"),)),
        "times sayings too few": Fault(3, NoPart, label, rows=(times("pass", (HIGH,), "ab"),)),
        "times names too many": Fault(3, NoPart, label, rows=(times("pass", (HIGH, TWO), "abc"),)),
        "times unlike in number": Fault(3, NoPart, label, rows=(times("more", (HIGH,), "ab"),)),
        "times unlike in width": Fault(3, NoPart, label, rows=(times("wide", (HIGH,), "a"),)),
        "never in a wire": Fault(4, Never, never[1], rows=(wire_row(a, ("and", HIGH, never)),)),
        "never in a box": Fault(4, Never, never[1], rows=(("box", a, 1, 0, never),)),
        "never in a part": Fault(4, Never, never[1], rows=(use("pass", (never, TWO), "ab"),)),
        "never in times": Fault(4, Never, never[1], rows=(times("pass", (HIGH, never), "ab"),)),
        "no width in a wire": Fault(4, NoWidth, a, rows=(wire_row(a, ("and", HIGH, wide)),)),
        "another width in a wire": Fault(4, NoWidth, a, rows=(wire_row(a, wide),)),
        "another width in a box": Fault(4, NoWidth, a, rows=(("box", a, 1, 0, wide),)),
        "no width in a box": Fault(4, NoWidth, a, rows=(("box", a, 1, 0, ("sum", HIGH, wide)),)),
        "another width in a part": Fault(4, NoWidth, label, rows=(use("pass", (HIGH, HIGH), "ab"),)),
        "another width in times": Fault(4, NoWidth, label, rows=(times("pass", (wide, wide), "ab"),)),
        "no width in times": Fault(4, NoWidth, label, rows=(times("pass", (("join", HIGH, ("number", 1, 8)), TWO), "ab"),)),
        "out twice": Fault(5, Twice, a, rows=(wire_row(a, HIGH),), at=1, outs=((a, 1), (a, 1))),
        "out never": Fault(5, Never, a, outs=((a, 1),)),
        "out of another width": Fault(5, NoWidth, a, rows=(wire_row(a, HIGH),), outs=((a, 2),)),
    }


NAMES = tuple(faults("x"))


def part_of(name, found):
    """A part with some faults, what they bring in their order, and the refusal that is due first."""
    ins, rows, outs, dues = [], [], [], []
    for fault in found:
        place = {1: len(ins), 5: len(outs)}.get(fault.step, len(rows))
        dues.append((fault.step, place + fault.at, fault.kind, fault.name))
        ins.extend(fault.ins)
        rows.extend(fault.rows)
        outs.extend(fault.outs)
    due = min(dues, key=lambda due: due[:2]) if dues else None
    return (name, tuple(ins), tuple(outs), tuple(rows)), due


class LookTest(unittest.TestCase):
    def due(self, plan, kind, part, name):
        before = copy.deepcopy(plan)
        refused(self, kind, {"part": part, "name": name}, look, plan)
        self.assertEqual(plan, before)

    def good(self, plan):
        before = copy.deepcopy(plan)
        self.assertIsNone(look(plan))
        self.assertEqual(plan, before)

    def test_what_the_faults_ask_for_is_right(self):
        self.good(AHEAD)
        self.good(AHEAD + [("top", (), (), ())])

    def test_each_fault_alone(self):
        for name, fault in faults("x").items():
            with self.subTest(name):
                part, due = part_of("top", [fault])
                self.due(AHEAD + [part], fault.kind, "top", fault.name)
                self.due(AHEAD + [part, ("later", (), (), ())], fault.kind, "top", fault.name)

    def test_each_two_faults_in_one_part(self):
        ones, others = faults("x"), faults("y")
        for one in NAMES:
            for other in NAMES:
                part, due = part_of("top", [ones[one], others[other]])
                self.due(AHEAD + [part], due[2], "top", due[3])

    def test_each_two_faults_in_two_parts(self):
        ones, others = faults("x"), faults("y")
        for one in NAMES:
            for other in NAMES:
                first = part_of("top", [ones[one]])[0]
                second = part_of("two", [others[other]])[0]
                self.due(AHEAD + [first, second], ones[one].kind, "top", ones[one].name)

    def test_the_name_of_a_part(self):
        for name, fault in faults("x").items():
            for own in ("pass", "none", "wide"):
                part = part_of(own, [fault])[0]
                self.due(AHEAD + [part], NoName, own, own)
                # The later one of two is refused, behind all that its forerunners have.
                later = part_of("top", [fault])[0]
                self.due(AHEAD + [later, NONE], fault.kind, "top", fault.name)
        self.due([NONE, ("top", (), (), ()), NONE], NoName, "none", "none")
        self.due([NONE, NONE], NoName, "none", "none")

    def test_faults_ahead_of_the_size_and_of_rings(self):
        ring = wire_row("r", wired("r"))
        big = tuple(wire_row("big" + "abcdef"[at], balanced(35)) for at in range(6))
        for name, fault in faults("x").items():
            part = part_of("top", [fault])[0]
            for more in ((ring,), big, big + (ring,)):
                self.due(AHEAD + [swapped(part, 3, more + part[3])], fault.kind, "top", fault.name)
                self.due(AHEAD + [swapped(part, 3, part[3] + more)], fault.kind, "top", fault.name)
                self.due(AHEAD + [("two", (), (), more), part], fault.kind, "top", fault.name)

    def test_any_thing_that_is_no_plan(self):
        for thing in ODD + (0, "part a\nend", (NONE,), [NONE, None], [list(NONE)], [swapped(NONE, 0, "and")],
                            [NONE] * 7, [("top", (), (), (wire_row("a", chain(7)),))], NONE):
            for deep in (0, 1, 2, 12):
                if deep == 0 or thing != NONE:
                    refused(self, NoPlan, {}, look, nested(thing, deep))
        refused(self, NoPlan, {}, look, [NONE, NONE, ("top", (), (), (None,))])
        refused(self, NoPlan, {}, look, [AHEAD[0], part_of("top", [faults("x")["in twice"]])[0], None])
        refused(self, NoPlan, {}, look, [1] * 1000)

    def test_each_name_of_twice_is_the_first_one(self):
        row = ("part", "l", "pass", (HIGH, TWO), ("b", "a"))
        self.due([PASS, ("top", (("a", 1), ("b", 1)), (), (row,))], Twice, "top", "b")
        self.due([PASS, ("top", (("a", 1),), (), (row,))], Twice, "top", "a")
        self.due([PASS, ("top", (("b", 1), ("a", 1), ("a", 1), ("b", 1)), (), ())], Twice, "top", "a")

    def test_a_label_ahead_of_what_its_row_drives(self):
        rows = (("part", "l", "none", (), ()), wire_row("a", HIGH), ("part", "l", "more", (HIGH,), ("a", "a")))
        self.due(AHEAD + [("top", (), (), rows)], NoName, "top", "l")
        rows = (wire_row("a", HIGH), ("part", "l", "more", (HIGH,), ("a", "a")), ("part", "l", "none", (), ()))
        self.due(AHEAD + [("top", (), (), rows)], Twice, "top", "a")
        rows = (("times", 2, "l", "none", (), ()), ("part", "l", "none", (), ()))
        self.due(AHEAD + [("top", (), (), rows)], NoName, "top", "l")

    def test_a_label_and_a_wire_called_alike(self):
        rows = (("part", "a", "none", (), ()), wire_row("a", HIGH), ("times", 2, "b", "pass", (HIGH, TWO), ("b", "c")))
        self.good(AHEAD + [("top", (("top", 1),), (("a", 1), ("b", 1), ("top", 1)), rows)])
        self.good([PASS, ("top", (("i", 1),), (), (("part", "i", "pass", (wired("i"), TWO), ("pass", "o")),))])

    def test_one_row_with_all_faults(self):
        never = wired("n")
        row = ("part", "l", "pass", (("and", never, ("number", 1, 2)), never), ("a", "b"))
        self.due([PASS, ("top", (), (("a", 2),), (row,))], Never, "top", "n")
        self.due([PASS, ("top", (), (("a", 2),), (swapped(row, 3, (never,)),))], NoPart, "top", "l")
        self.due([PASS, ("top", (), (("a", 2),), (swapped(swapped(row, 3, (never,)), 4, ("a", "a")),))],
                 Twice, "top", "a")
        self.due([PASS, ("top", (), (("a", 2),), (swapped(row, 4, ("a", "a")),))], Twice, "top", "a")
        row = ("part", "l", "pass", (("number", 1, 2), never), ("a", "b"))
        self.due([PASS, ("top", (), (("a", 2),), (row,))], NoWidth, "top", "l")
        self.due([PASS, ("top", (), (("a", 2),), (swapped(row, 3, (never, ("number", 1, 1))),))], Never, "top", "n")
        self.due([PASS, ("top", (), (("a", 2),), (swapped(row, 3, (HIGH, TWO)),))], NoWidth, "top", "a")

    def test_the_first_wire_in_the_order_of_writing(self):
        for saying, due in ((("and", wired("p"), wired("q")), "p"), (("and", wired("q"), wired("p")), "q"),
                            (("choice", wired("a"), ("not", wired("z")), wired("b")), "z"),
                            (("and", ("and", wired("a"), ("not", wired("m"))), wired("l")), "m"),
                            (("join", ("number", 0, 8), wired("y")), "y"),
                            (("cut", 7, 8, ("and", wired("a"), ("table", 1, (0, 1), wired("k")))), "k")):
            self.due([("top", (("a", 1),), (), (wire_row("w", saying),))], Never, "top", due)

    def test_saying_by_saying(self):
        bad, never = ("number", 1, 3), wired("n")
        for sayings, kind, due in (((bad, never), NoWidth, "l"), ((never, bad), Never, "n"),
                                   ((bad, bad), NoWidth, "l"), ((HIGH, never), Never, "n"), ((HIGH, bad), NoWidth, "l"),
                                   ((wired("m"), never), Never, "m")):
            for row in (("part", "l", "pass", sayings, ("a", "b")), ("times", 3, "l", "pass", sayings, ("a", "b"))):
                self.due([PASS, ("top", (), (), (row,))], kind, "top", due)

    def test_what_later_rows_drive_is_driven(self):
        rows = (wire_row("a", wired("b")), wire_row("b", wired("c")), ("part", "l", "pass", (wired("d"), TWO), ("c", "e")),
                ("box", "d", 1, 0, wired("f")), ("times", 2, "m", "pass", (HIGH, wired("e")), ("f", "g")))
        self.good([PASS, ("top", (), (("g", 2), ("a", 1)), rows)])

    def test_names_have_the_widths_of_the_outs(self):
        for row in (("part", "l", "pass", (HIGH, TWO), ("a", "b")), ("times", 2, "l", "pass", (HIGH, TWO), ("a", "b"))):
            self.good([PASS, ("top", (), (("a", 1), ("b", 2)), (row,))])
            self.due([PASS, ("top", (), (("a", 2), ("b", 2)), (row,))], NoWidth, "top", "a")
            self.due([PASS, ("top", (), (("a", 1), ("b", 1)), (row,))], NoWidth, "top", "b")
            self.good([PASS, ("top", (), (), (row, wire_row("c", ("join", A, B), 3)))])
            self.due([PASS, ("top", (), (), (row, wire_row("c", ("join", A, B), 2)))], NoWidth, "top", "c")

    def test_outs(self):
        part = ("top", (("a", 1), ("b", 2)), (), ())
        for outs, kind, due in (((("a", 1), ("b", 2), ("a", 3)), Twice, "a"), ((("c", 1), ("c", 1)), Never, "c"),
                                ((("a", 1), ("c", 1), ("a", 1)), Never, "c"), ((("a", 2), ("a", 2)), NoWidth, "a"),
                                ((("b", 2), ("a", 2), ("c", 1)), NoWidth, "a"), ((("b", 2), ("b", 1)), Twice, "b")):
            self.due([swapped(part, 2, outs)], kind, "top", due)
        self.good([swapped(part, 2, (("b", 2), ("a", 1)))])

    def test_any_plan_without_rings_is_let_by(self):
        rng = random.Random(5)
        for seed in range(150):
            self.good(some_plan(rng, parts=rng.randint(1, 5)))


def filler(rows, pieces, name="top", ahead="w"):
    """A part of just so many rows and pieces (pieces at least as many, at most thirty times that)."""
    told = []
    for at in range(rows):
        here = min(30, pieces - (rows - at - 1))
        saying = balanced(here)
        pieces -= here
        told.append(wire_row(ahead + "abcdefghijklmnopqrstuvwxyz"[at], saying))
    assert pieces == 0
    return (name, (), (), tuple(told))


def balanced(pieces):
    """A saying of one bit of just so many pieces, of little depth."""
    if pieces == 1:
        return HIGH
    if pieces == 2:
        return ("not", HIGH)
    left = (pieces - 1) // 2
    return ("and", balanced(left), balanced(pieces - 1 - left))


class SizeTest(unittest.TestCase):
    def size(self, plan, due):
        if due:
            refused(self, TooMuch, {}, look, plan)
        else:
            self.assertIsNone(look(plan))

    def test_rows_through_a_part(self):
        for more in range(0, 18):
            low = filler(16, 16, "low")
            rows = tuple(("part", label, "low", (), ()) for label in ("la", "lb", "lc"))
            top = filler(more, more)
            self.size([low, swapped(top, 3, top[3] + rows)], 48 + more > 60)

    def test_rows_of_ins_outs_and_copies(self):
        low = ("low", (("i", 1), ("j", 1)), (("o", 1), ("p", 1)),
               (wire_row("o", wired("i")), wire_row("p", wired("j")), ("box", "q", 1, 0, HIGH)))
        # Copies of 2 + 3 rows, and 2 for the names.
        for many in range(1, 9):
            times = ("times", many, "l", "low", (HIGH, HIGH), ("a", "b"))
            for more in range(0, 20):
                top = filler(more, more)
                self.size([low, swapped(top, 3, top[3] + (times,))], many * 5 + 2 + more > 60)
        part = ("part", "l", "low", (HIGH, HIGH), ("a", "b"))
        times = ("times", 8, "m", "low", (HIGH, HIGH), ("c", "d"))
        for more in range(9, 15):
            top = filler(more, more)
            self.size([low, swapped(top, 3, top[3] + (times, part))], 7 + 42 + more > 60)

    def test_pieces(self):
        for pieces in (199, 200, 201, 202):
            self.size([filler(20, pieces)], pieces > 200)

    def test_pieces_of_boxes(self):
        for pieces in (29, 30, 31):
            rows = (("box", "b", 1, 0, balanced(pieces)),)
            top = filler(10, 170)
            self.size([swapped(top, 3, top[3] + rows)], pieces > 30)

    def test_pieces_of_parts_and_copies(self):
        low = ("low", (("i", 1), ("j", 1)), (("o", 1), ("p", 1)),
               (wire_row("o", balanced(7)), wire_row("p", wired("j")), ("box", "q", 1, 0, balanced(3))))
        for many in range(1, 9):
            told = 9 + 4 + (many - 1) * 2 + many * 11 + 2
            for more in range(197 - told, 205 - told):
                times = ("times", many, "l", "low", (balanced(9), balanced(4)), ("a", "b"))
                top = filler(12, more)
                self.size([low, swapped(top, 3, (times,) + top[3])], told + more > 200)
        for more in range(197 - 26, 205 - 26):
            part = ("part", "l", "low", (balanced(9), balanced(4)), ("a", "b"))
            top = filler(12, more)
            self.size([low, swapped(top, 3, (part,) + top[3])], 26 + more > 200)

    def test_parts_of_unlike_many_ins_and_outs(self):
        for ins, outs in ((0, 3), (3, 0), (1, 5), (5, 1), (8, 8)):
            low = ("low", tuple(("i" + "abcdefgh"[at], 1) for at in range(ins)), tuple(("o" + "abcdefgh"[at], 1) for at in range(outs)),
                   tuple(wire_row("o" + "abcdefgh"[at], HIGH) for at in range(outs)))
            row = ("part", "u", "low", (HIGH,) * ins, tuple("n" + "abcdefgh"[at] for at in range(outs)))
            mid = ("mid", (), (), (row,))
            for copies in range(1, 9):
                for more in range(0, 20):
                    times = ("times", copies, "t", "mid", (), ())
                    top = filler(more, more)
                    self.size([low, mid, swapped(top, 3, (times,) + top[3])], copies * (ins + 2 * outs) + more > 60)
            told = ins + 2 * outs
            for more in range(198 - told, 204 - told):
                top = filler(18, more)
                self.size([low, swapped(top, 3, (row,) + top[3])], told + more > 200)

    def test_parts_that_are_not_asked_for(self):
        self.size([filler(20, 600, "low"), filler(3, 3)], False)
        self.size([filler(20, 600, "low"), filler(20, 600, "two"), filler(20, 200)], False)
        self.size([filler(3, 3, "low"), filler(20, 201)], True)

    def test_parts_within_parts(self):
        plan = [filler(4, 4, "one")]
        for name, ahead in (("two", "one"), ("three", "two"), ("four", "three")):
            plan.append((name, (), (), (("part", "u", ahead, (), ()), ("part", "v", ahead, (), ()))))
        self.size(plan, False)
        plan.append(("five", (), (), (("part", "u", "four", (), ()), ("part", "v", "three", (), ()))))
        self.size(plan, False)
        plan[-1] = ("five", (), (), (("part", "u", "four", (), ()), ("part", "v", "four", (), ())))
        self.size(plan, True)

    def test_huge(self):
        for last in ((("i", 1),), ()):
            plan = [("a", last, tuple(("o", width) for name, width in last),
                     tuple(wire_row("o", wired("i")) for name in last))]
            for name, ahead in ("ba", "cb", "dc", "ed", "fe"):
                rows = tuple(("times", 8, "l" + letter, ahead, (HIGH,) * len(last), ("w" + letter,) * len(last))
                             for letter in "abcdefghijklmnopqrs")
                outs = tuple(wire_row("o", wired("wa")) for out in last)
                plan.append((name, last, tuple(("o", width) for port, width in last), rows + outs))
            self.size(plan, bool(last))
        plan[0] = ("a", (), (), (wire_row("w", HIGH),))
        self.size(plan, True)

    def test_too_much_ahead_of_a_ring(self):
        top = filler(19, 200)
        self.size([swapped(top, 3, top[3] + (wire_row("r", wired("r")),))], True)
        top = filler(19, 199)
        refused(self, Ring, {"names": ["r"]}, look, [swapped(top, 3, top[3] + (wire_row("r", wired("r")),))])


def is_ring(names, rows):
    """Whether names are of wire rows, each once, each waiting for the next one and the last for the first."""
    sayings = {row[1]: row[3] for row in rows if row[0] == "wire"}
    if type(names) is not list or not names or len(set(names)) != len(names) or set(names) - set(sayings):
        return False
    return all(later in str_wires(sayings[name]) for name, later in zip(names, names[1:] + names[:1]))


def str_wires(saying):
    if saying[0] == "wire":
        return [saying[1]]
    return [name for piece in saying[1:] if isinstance(piece, tuple) and piece and isinstance(piece[0], str)
            for name in str_wires(piece)]


def is_order(names, rows):
    waits = {row[1]: str_wires(row[3]) for row in rows if row[0] == "wire"}
    if type(names) is not list or sorted(names) != sorted(waits):
        return False
    return all(names.index(wire) < at for at, name in enumerate(names) for wire in waits[name] if wire in waits)


class RingTest(unittest.TestCase):
    def ring(self, plan, due=None):
        before = copy.deepcopy(plan)
        rows = spread(plan)[2]
        told = refused(self, Ring, {}, look, plan)
        self.assertTrue(is_ring(told.names, rows), told.names)
        again = refused(self, Ring, {}, order_of, rows)
        self.assertTrue(is_ring(again.names, rows), again.names)
        self.assertEqual(plan, before)
        if due is not None:
            self.assertEqual(sorted(told.names), sorted(due))

    def test_rings_of_one(self):
        self.ring([("top", (), (), (wire_row("a", A),))], ["a"])
        self.ring([("top", (("b", 1),), (), (wire_row("a", ("and", B, ("not", A))),))], ["a"])

    def test_rings_of_two_and_many(self):
        for many in range(2, 21):
            names = ["w" + "abcdefghijklmnopqrst"[at] for at in range(many)]
            rows = [wire_row(name, ("odd", wired(later), HIGH)) for name, later in zip(names, names[1:] + names[:1])]
            random.Random(many).shuffle(rows)
            self.ring([("top", (), (), tuple(rows))], names)

    def test_rows_that_lead_to_and_from_a_ring(self):
        rows = (wire_row("d", wired("c")), wire_row("c", wired("b")), wire_row("b", ("and", A, wired("e"))),
                wire_row("a", B), wire_row("e", wired("in")), wire_row("f", ("or", wired("e"), wired("d"))))
        self.ring([("top", (("in", 1),), (), rows)], ["a", "b"])
        self.ring([("top", (("in", 1),), (), rows[::-1])], ["a", "b"])

    def test_several_rings(self):
        rows = (wire_row("a", ("and", B, A)), wire_row("b", A), wire_row("c", wired("d")), wire_row("d", ("or", wired("c"), B)))
        for turn in range(4):
            self.ring([("top", (), (), rows[turn:] + rows[:turn])])

    def test_a_box_breaks_a_ring(self):
        self.assertIsNone(look([("top", (), (), (("box", "a", 1, 0, A),))]))
        self.assertIsNone(look([("top", (), (), (("box", "a", 1, 0, B), wire_row("b", A)))]))
        self.assertIsNone(look([("top", (), (), (("box", "a", 1, 0, B), ("box", "b", 1, 0, A)))]))
        self.ring([("top", (), (), (("box", "a", 1, 0, B), wire_row("b", ("and", A, B))))], ["b"])

    def test_rings_through_parts(self):
        low = ("low", (("i", 1), ("j", 1)), (("o", 1), ("p", 1)), (wire_row("o", wired("i")), wire_row("p", wired("j"))))
        use = ("part", "u", "low", (wired("x"), wired("y")), ("x", "z"))
        self.ring([low, ("top", (("y", 1),), (), (use,))], ["x", "u.o", "u.i"])
        # Through the part twice, by its two ways.
        use = ("part", "u", "low", (wired("z"), wired("x")), ("x", "z"))
        self.ring([low, ("top", (), (), (use,))], ["x", "u.o", "u.i", "z", "u.p", "u.j"])
        use = ("part", "u", "low", (HIGH, wired("x")), ("x", "z"))
        self.assertIsNone(look([low, ("top", (), (), (use,))]))
        within = ("part", "v", "mid", (wired("a"),), ("a",))
        mid = ("mid", (("i", 1),), (("o", 1),), (("part", "u", "low", (wired("i"), HIGH), ("o", "q")),))
        self.ring([low, mid, ("top", (), (), (within,))], ["a", "v.o", "v.u.o", "v.u.i", "v.i"])

    def test_a_ring_within_a_part(self):
        low = ("low", (), (("o", 1),), (wire_row("o", wired("q")), wire_row("q", wired("o"))))
        self.ring([low, ("top", (), (), (("part", "u", "low", (), ("a",)),))], ["u.o", "u.q"])
        # No part that is built asks for it.
        self.assertIsNone(look([low, ("top", (), (), ())]))

    def test_rings_through_copies(self):
        low = ("low", (("i", 1),), (("o", 1),), (wire_row("o", ("not", wired("i"))),))
        use = ("times", 3, "u", "low", (A,), ("a",))
        self.ring([low, ("top", (), (), (use,))], ["a", "u.2.o", "u.2.i", "u.1.o", "u.1.i", "u.0.o", "u.0.i"])
        kept = ("low", (("i", 1),), (("o", 1),), (("box", "o", 1, 0, wired("i")),))
        self.assertIsNone(look([kept, ("top", (), (), (use,))]))

    def test_a_ring_that_look_refuses_is_spread(self):
        plan = [("top", (), (("a", 1),), (wire_row("a", A),))]
        self.assertEqual(spread(plan), ([], [("a", 1)], [wire_row("a", A)]))

    def test_the_names_are_a_list_of_ones_own(self):
        plan = [("top", (), (), (wire_row("a", A),))]
        told = refused(self, Ring, {}, look, plan)
        told.names.append("more")
        self.assertEqual(refused(self, Ring, {}, look, plan).names, ["a"])


class OrderTest(unittest.TestCase):
    def order(self, rows):
        before = copy.deepcopy(rows)
        told = order_of(rows)
        self.assertTrue(is_order(told, rows), told)
        told.append("more")
        self.assertEqual(rows, before)
        self.assertTrue(is_order(order_of(rows), rows))

    def test_no_rows(self):
        self.order([])
        self.order([("box", "a", 1, 0, A)])

    def test_rows_in_any_order(self):
        rng = random.Random(1)
        for many in (1, 2, 3, 5, 12, 60):
            names = [("u%d.w" % at) for at in range(many)]
            for turn in range(20):
                rows = []
                for at, name in enumerate(names):
                    saying = ("and", wired(rng.choice(names[:at] + ["in", "box"])), wired(rng.choice(names[:at] + ["in"])))
                    rows.append(wire_row(name, saying))
                rows.append(("box", "box", 1, 1, wired(rng.choice(names))))
                rng.shuffle(rows)
                self.order(rows)

    def test_a_wire_that_stands_twice(self):
        self.order([wire_row("b", ("and", A, A)), wire_row("a", HIGH)])

    def test_long_chains(self):
        names = ["w%d" % at for at in range(300)]
        rows = [wire_row(name, wired(later)) for name, later in zip(names, names[1:])] + [wire_row("w299", HIGH)]
        self.assertEqual(order_of(rows), names[::-1])
        rows[-1] = wire_row("w299", wired("w0"))
        self.assertEqual(sorted(refused(self, Ring, {}, order_of, rows).names), sorted(names))

    def test_orders_of_any_plan(self):
        rng = random.Random(2)
        for seed in range(60):
            self.order(spread(some_plan(rng, parts=rng.randint(1, 4)))[2])


if __name__ == "__main__":
    unittest.main()
