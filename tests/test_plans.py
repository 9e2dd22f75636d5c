import copy
import unittest

from lampforge.plans import is_plan
from tests.things import A, B, ODD, RIGHT, WRONG, chain, nested, swapped, thirty_nine_and, tree

# A right row of each kind, and the kinds of its things.
WIRE = ("wire", "a", 1, A)
BOX = ("box", "a", 1, 0, A)
PART = ("part", "u", "low", (A, B), ("x", "y"))
TIMES = ("times", 3, "u", "low", (A, B), ("x", "y"))
ROWS = (
    (WIRE, ("name", "width", "saying")),
    (BOX, ("name", None, None, "saying")),
    (PART, ("name", "name", "sayings", "names")),
    (TIMES, ("many", "name", "name", "sayings", "names")),
)
PORT = ("a", 1)
BARE = ("top", (), (), ())


def with_row(row):
    return [("top", (), (), (row,))]


def with_rows(rows):
    return [("top", (), (), rows)]


class PlanTest(unittest.TestCase):
    def right(self, thing):
        before = copy.deepcopy(thing)
        self.assertIs(is_plan(thing), True, thing)
        self.assertEqual(thing, before)

    def wrong(self, thing):
        before = copy.deepcopy(thing)
        self.assertIs(is_plan(thing), False, thing)
        self.assertEqual(thing, before)

    def test_an_ordinary_plan(self):
        low = ("low", (("a", 2), ("b", 2)), (("s", 2), ("c", 1)),
               (("wire", "s", 2, ("sum", A, B)), ("wire", "c", 1, ("under", ("wire", "s"), A))))
        top = ("top", (("a", 2),), (("s", 2), ("k", 2)),
               (("part", "one", "low", (A, ("wire", "k")), ("s", "c")), ("box", "k", 2, 3, ("wire", "s"))))
        self.right([low])
        self.right([low, top])

    def test_how_many_parts(self):
        for many in range(9):
            self.assertIs(is_plan([BARE] * many), 1 <= many <= 6, many)

    def test_any_thing(self):
        for thing in ODD:
            for deep in range(12):
                self.wrong(nested(thing, deep))
            self.wrong([thing])
            self.wrong([BARE, thing])
            self.wrong([thing, BARE])
            self.wrong(with_row(thing))
            self.wrong(with_rows((WIRE, thing)))
            self.wrong([("top", (thing,), (), ())])
            self.wrong([("top", (), (thing,), ())])
        self.wrong([1] * 1000)
        self.wrong(with_rows((WIRE,) * 1000))
        self.wrong(tree(14))

    def test_a_tuple_for_a_list(self):
        self.wrong((BARE,))
        self.wrong(BARE)
        self.wrong(((BARE,),))
        self.wrong([[BARE]])

    def test_a_list_for_a_tuple(self):
        self.wrong([list(BARE)])
        for place in (1, 2, 3):
            self.wrong([swapped(BARE, place, [])])
        self.wrong([("top", [PORT], (), ())])
        self.wrong([("top", (), [PORT], ())])
        self.wrong([("top", (), (), [WIRE])])
        self.wrong([("top", (list(PORT),), (), ())])
        self.wrong([("top", (), (list(PORT),), ())])
        for row, kinds in ROWS:
            self.wrong(with_row(list(row)))

    def test_parts_of_other_lengths(self):
        for many in range(4):
            self.wrong([BARE[:many]])
        for more in ((), None, "a", WIRE):
            self.wrong([BARE + (more,)])
            self.wrong([(more,) + BARE])

    def test_the_name_of_a_part(self):
        for name in RIGHT["name"]:
            self.right([swapped(BARE, 0, name)])
        for thing in WRONG["name"]:
            self.wrong([swapped(BARE, 0, thing)])

    def test_ins_outs_and_rows_of_other_kinds(self):
        for place in (1, 2, 3):
            for thing in ("", "a", None, 0, 1, True, False, PORT, WIRE, (PORT, 1)):
                self.wrong([swapped(BARE, place, thing)])

    def test_ins_and_outs(self):
        for place in (1, 2):
            for name in RIGHT["name"]:
                self.right([swapped(BARE, place, ((name, 1),))])
            for thing in WRONG["name"]:
                self.wrong([swapped(BARE, place, ((thing, 1),))])
            for width in RIGHT["width"]:
                self.right([swapped(BARE, place, (("a", width),))])
            for thing in WRONG["width"]:
                self.wrong([swapped(BARE, place, (("a", thing),))])
            for port in ((), ("a",), ("a", 1, 1), (1, "a"), "ab", (PORT,)):
                self.wrong([swapped(BARE, place, (port,))])

    def test_each_place_of_the_ins_and_outs(self):
        for place in (1, 2):
            for at in range(8):
                ports = (PORT,) * at + (("a", 9),) + (PORT,) * (7 - at)
                self.wrong([swapped(BARE, place, ports)])

    def test_how_many_ins_outs_and_rows(self):
        for many in range(11):
            self.assertIs(is_plan([("top", (PORT,) * many, (), ())]), many <= 8, many)
            self.assertIs(is_plan([("top", (), (PORT,) * many, ())]), many <= 8, many)
        for many in range(24):
            self.assertIs(is_plan(with_rows((WIRE,) * many)), many <= 20, many)

    def test_a_wrong_row_at_each_place(self):
        for at in range(20):
            self.wrong(with_rows((WIRE,) * at + (("wire", "a", 9, A),) + (WIRE,) * (19 - at)))

    def test_a_wrong_part_at_each_place(self):
        for at in range(6):
            self.wrong([BARE] * at + [("and", (), (), ())] + [BARE] * (5 - at))


class RowTest(unittest.TestCase):
    def right(self, row):
        self.assertIs(is_plan(with_row(row)), True, row)

    def wrong(self, row):
        self.assertIs(is_plan(with_row(row)), False, row)

    def test_each_kind_is_right(self):
        for row, kinds in ROWS:
            self.right(row)

    def test_another_first_text(self):
        for row, kinds in ROWS:
            for word in ODD + ("a", "use", "and", "in", "Wire", row[0] + "s", row[0][:-1], (row[0],), [row[0]], 0):
                self.wrong(swapped(row, 0, word))
            for other, kinds in ROWS:
                self.assertIs(is_plan(with_row(swapped(row, 0, other[0]))), row == other)

    def test_a_thing_too_few_or_too_many(self):
        for row, kinds in ROWS:
            for place in range(len(row)):
                self.wrong(row[:place])
                self.wrong(row[:place] + row[place + 1:])
            for more in (A, None, 1, "a", (), ("x",)):
                for place in range(len(row) + 1):
                    self.wrong(row[:place] + (more,) + row[place:])

    def test_each_thing_right_and_wrong_in_turn(self):
        for row, kinds in ROWS:
            for place, kind in enumerate(kinds, start=1):
                for thing in RIGHT.get(kind, ()):
                    self.right(swapped(row, place, thing))
                for thing in WRONG.get(kind, ()):
                    self.wrong(swapped(row, place, thing))

    def test_firsts_of_boxes(self):
        for width in range(1, 9):
            for first in (0, 1, 2 ** width - 1):
                self.right(("box", "a", width, first, A))
            for first in ODD + (2 ** width, 2 ** width + 1, "0", (0,), [0]):
                self.wrong(("box", "a", width, first, A))
        for width in WRONG["width"]:
            self.wrong(("box", "a", width, 0, A))

    def test_sayings_and_names_of_other_kinds(self):
        for row, kinds in ROWS[2:]:
            for place in (len(row) - 2, len(row) - 1):
                self.right(swapped(row, place, ()))
                for thing in (None, True, False, 0, 1, "", "a", "ab", [], A, [A, B], ["x", "y"], ((),), ([],)):
                    self.wrong(swapped(row, place, thing))

    def test_each_saying_and_name_wrong_in_turn(self):
        for row, kinds in ROWS[2:]:
            place = len(row) - 2
            for at in range(8):
                for thing in WRONG["saying"]:
                    self.wrong(swapped(row, place, (A,) * at + (thing,) + (A,) * (7 - at)))
                for thing in WRONG["name"]:
                    self.wrong(swapped(row, place + 1, ("x",) * at + (thing,) + ("x",) * (7 - at)))

    def test_how_many_sayings_and_names(self):
        for row, kinds in ROWS[2:]:
            place = len(row) - 2
            for many in range(11):
                self.assertIs(is_plan(with_row(swapped(row, place, (A,) * many))), many <= 8, many)
                self.assertIs(is_plan(with_row(swapped(row, place + 1, ("x",) * many))), many <= 8, many)

    def test_sayings_at_their_bounds(self):
        for saying, due in ((chain(6), True), (chain(7), False), (thirty_nine_and(A), True),
                            (thirty_nine_and(("not", A)), False), (tree(14), False)):
            for row in (("wire", "a", 1, saying), ("box", "a", 1, 0, saying), ("part", "u", "low", (A, saying), ()),
                        ("times", 1, "u", "low", (saying,), ())):
                self.assertIs(is_plan(with_row(row)), due)

    def test_the_largest_plan(self):
        part = ("top", (PORT,) * 8, (PORT,) * 8, (("part", "u", "low", (thirty_nine_and(A),) * 8, ("x",) * 8),) * 20)
        self.assertIs(is_plan([part] * 6), True)


class LookerTest(unittest.TestCase):
    """What only the looker refuses is a plan all the same."""

    def right(self, thing):
        self.assertIs(is_plan(thing), True, thing)

    def test_names_that_come_twice(self):
        self.right([BARE, BARE])
        self.right([("top", (PORT, PORT), (PORT, PORT), (WIRE, BOX, WIRE))])
        self.right(with_rows((PART, PART, TIMES)))
        self.right(with_row(("part", "u", "low", (), ("x", "x"))))

    def test_wires_that_nothing_drives(self):
        self.right(with_row(("wire", "a", 1, ("wire", "never"))))
        self.right([("top", (), (PORT,), ())])

    def test_widths_that_do_not_fit(self):
        self.right(with_row(("wire", "a", 1, ("number", 3, 8))))
        self.right(with_row(("box", "a", 8, 255, ("number", 0, 1))))
        self.right(with_row(("wire", "a", 1, ("join", ("number", 0, 8), ("number", 0, 8)))))

    def test_parts_that_are_not_there(self):
        self.right(with_row(("part", "u", "never", (A,), ())))
        self.right(with_row(("part", "u", "top", (), ("a",))))
        self.right(with_row(("times", 8, "u", "u", (A,), ("x", "y"))))

    def test_rings(self):
        self.right(with_row(("wire", "a", 1, A)))
        self.right(with_rows((("wire", "a", 1, B), ("wire", "b", 1, A))))

    def test_too_much(self):
        once = ("times", 8, "u", "low", (A,), ("x",))
        low = ("low", (PORT,), (PORT,), (once,) * 20)
        self.right([low, low, low, low, low, low])


if __name__ == "__main__":
    unittest.main()
