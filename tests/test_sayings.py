import copy
import unittest

from lampforge.sayings import is_saying, width_of, wires_in
from tests.things import A, B, C, ODD, RIGHT, WORDS, WRONG, chain, nested, swapped, thirty_nine_and, tree

# A right saying of each form, and the kinds of what stands behind its word. Numbers and tables
# have tests of their own, for what is right there hangs on the width.
FORMS = (
    (("wire", "a"), ("name",)),
    (("number", 0, 1), (None, "width")),
    (("not", A), ("saying",)),
    (("and", A, B), ("saying", "saying")),
    (("or", A, B), ("saying", "saying")),
    (("odd", A, B), ("saying", "saying")),
    (("sum", A, B), ("saying", "saying")),
    (("less", A, B), ("saying", "saying")),
    (("under", A, B), ("saying", "saying")),
    (("same", A, B), ("saying", "saying")),
    (("choice", C, A, B), ("saying", "saying", "saying")),
    (("up", 1, A), ("k", "saying")),
    (("down", 1, A), ("k", "saying")),
    (("join", A, B), ("saying", "saying")),
    (("cut", 1, 2, A), ("low", "width", "saying")),
    (("table", 1, (0, 1), A), ("width", None, "saying")),
)


class FormTest(unittest.TestCase):
    def right(self, thing):
        self.assertIs(is_saying(thing), True, thing)

    def wrong(self, thing):
        self.assertIs(is_saying(thing), False, thing)

    def test_each_form_is_right(self):
        self.assertEqual([form[0] for form, kinds in FORMS], list(WORDS))
        for form, kinds in FORMS:
            self.right(form)

    def test_each_thing_right_and_wrong_in_turn(self):
        for form, kinds in FORMS:
            for place, kind in enumerate(kinds, start=1):
                for thing in RIGHT.get(kind, ()):
                    self.right(swapped(form, place, thing))
                for thing in WRONG.get(kind, ()):
                    self.wrong(swapped(form, place, thing))

    def test_another_word(self):
        for form, kinds in FORMS:
            for word in ODD + ("a", "xor", "box", "part", "times", form[0] + "s", form[0].upper(), ("wire",), 0):
                self.wrong(swapped(form, 0, word))

    def test_a_word_of_another_form(self):
        alike = (("and", "or", "odd", "sum", "less", "under", "same", "join"), ("up", "down"))
        for form, kinds in FORMS:
            for word in WORDS:
                same = word == form[0] or any(word in group and form[0] in group for group in alike)
                self.assertIs(is_saying(swapped(form, 0, word)), same, (word, form))

    def test_a_thing_too_few_or_too_many(self):
        for form, kinds in FORMS:
            for many in range(len(form)):
                self.wrong(form[:many])
            for more in (A, None, 0, "a", ()):
                self.wrong(form + (more,))
                self.wrong(form[:1] + (more,) + form[1:])

    def test_a_list_for_a_tuple(self):
        for form, kinds in FORMS:
            self.wrong(list(form))
            self.wrong(("not", list(form)))
            self.wrong([form])
            self.wrong((form,))

    def test_wrong_far_within(self):
        for wrong in (("wire", "and"), ("number", 2, 1), ["wire", "a"], ("up", 9, A), None, ()):
            saying = wrong
            for step in range(5):
                saying = ("choice", A, B, saying)
            self.wrong(saying)

    def test_numbers_at_their_bounds(self):
        for width in range(1, 9):
            for number in (0, 1, 2 ** width - 1):
                self.right(("number", number, width))
            for number in ODD + (2 ** width, 2 ** width + 1, "0", "1", (0,), [0]):
                self.wrong(("number", number, width))
        self.wrong(("number", 0, 0))
        self.wrong(("number", 256, 9))
        self.wrong(("number", 0, -1))

    def test_tables_of_each_size(self):
        for many in range(20):
            self.assertIs(is_saying(("table", 2, (3,) * many, A)), many in (2, 4, 8, 16), many)
        self.wrong(("table", 2, (3,) * 32, A))
        self.wrong(("table", 2, (3,) * 1000, A))

    def test_tables_with_each_number_wrong_in_turn(self):
        for width in range(1, 9):
            for many in (2, 4, 8, 16):
                numbers = (2 ** width - 1,) * (many - 1) + (0,)
                self.right(("table", width, numbers, A))
                for place in range(many):
                    for wrong in (2 ** width, -1, True, False, None, "0", (0,), [0], A):
                        self.wrong(("table", width, swapped(numbers, place, wrong), A))

    def test_what_is_no_tuple_of_numbers(self):
        for thing in ODD + (0, 1, 2, [0, 1], "01", ((0, 1),), ([0, 1],), (A, A), A):
            self.wrong(("table", 1, thing, A))

    def test_widths_are_not_looked_at(self):
        wide = ("number", 0, 8)
        for saying in (("join", wide, wide), ("cut", 7, 8, A), ("choice", wide, A, wide), ("table", 8, (0, 1), wide),
                       ("and", wide, ("number", 0, 1)), ("up", 8, ("number", 0, 1))):
            self.right(saying)


class BoundTest(unittest.TestCase):
    def test_forty_pieces_and_forty_one(self):
        self.assertIs(is_saying(thirty_nine_and(A)), True)
        self.assertIs(is_saying(thirty_nine_and(("number", 3, 2))), True)
        self.assertIs(is_saying(thirty_nine_and(("not", A))), False)
        self.assertIs(is_saying(thirty_nine_and(("and", A, A))), False)

    def test_pieces_and_not_kinds_of_pieces_are_counted(self):
        wires = [("wire", name) for name in "abcdefghij"]
        fours = [("choice", *wires[place:place + 3]) for place in range(8)]
        # 8 choices of 4 pieces, 1 wire, 3 choices and the one above: 37 pieces.
        wide = ("choice", ("choice", *fours[0:3]), ("choice", *fours[3:6]), ("choice", *fours[6:8], wires[0]))
        self.assertIs(is_saying(wide), True)
        self.assertIs(is_saying(("and", wide, ("not", A))), True)
        self.assertIs(is_saying(("and", wide, ("not", ("not", A)))), False)

    def test_six_deep_and_seven(self):
        for deep in range(1, 7):
            self.assertIs(is_saying(chain(deep)), True, deep)
        for deep in range(7, 15):
            self.assertIs(is_saying(chain(deep)), False, deep)

    def test_depth_by_each_place_of_each_form(self):
        for form, kinds in FORMS:
            for place, kind in enumerate(kinds, start=1):
                if kind == "saying":
                    self.assertIs(is_saying(swapped(form, place, chain(5))), True)
                    self.assertIs(is_saying(swapped(form, place, chain(6))), False)

    def test_one_tuple_in_several_places(self):
        self.assertIs(is_saying(tree(5)), True)
        self.assertIs(is_saying(tree(6)), False)
        self.assertIs(is_saying(("choice", tree(3), tree(3), tree(3))), True)
        self.assertIs(is_saying(("choice", tree(4), tree(4), tree(4))), False)
        self.assertIs(is_saying(tree(14)), False)

    def test_one_tuple_in_very_many_places(self):
        saying = A
        for step in range(13):
            saying = ("choice", saying, saying, saying)
        self.assertIs(is_saying(saying), False)
        # Looked at one after the other these would never come to an end.
        self.assertIs(is_saying(tree(90)), False)

    def test_any_thing(self):
        for thing in ODD:
            for deep in range(14):
                self.assertIs(is_saying(nested(thing, deep)), False)
        for wide in ([A] * 3000, (A,) * 3000, ("and",) + (A,) * 2999, ("wire",) * 3000, [["wire", "a"]] * 1000):
            self.assertIs(is_saying(wide), False)
        for leaf in ("and", "wire", "a", 1, None, A):
            thing = leaf
            for step in range(13):
                thing = ("and", thing, [thing])
            self.assertIs(is_saying(thing), False)

    def test_nothing_is_changed(self):
        thing = ("table", 1, [0, 1], ["wire", ["a"]])
        is_saying(thing)
        self.assertEqual(thing, ("table", 1, [0, 1], ["wire", ["a"]]))


class WiresTest(unittest.TestCase):
    def test_the_order_of_writing(self):
        self.assertEqual(wires_in(("choice", C, A, B)), ["c", "a", "b"])
        self.assertEqual(wires_in(("and", ("or", C, B), ("not", A))), ["c", "b", "a"])
        self.assertEqual(wires_in(("sum", A, ("less", ("odd", B, C), A))), ["a", "b", "c", "a"])

    def test_names_that_come_again(self):
        self.assertEqual(wires_in(("and", A, A)), ["a", "a"])
        self.assertEqual(wires_in(("choice", B, ("not", A), B)), ["b", "a", "b"])
        self.assertEqual(wires_in(tree(5)), ["a"] * 16)

    def test_each_form(self):
        for form, kinds in FORMS:
            inner = [thing for thing, kind in zip(form[1:], kinds) if kind == "saying"]
            due = ["a"] if form[0] == "wire" else [saying[1] for saying in inner]
            self.assertEqual(wires_in(form), due, form)

    def test_sayings_without_wires(self):
        self.assertEqual(wires_in(("number", 0, 1)), [])
        self.assertEqual(wires_in(("sum", ("number", 0, 1), ("not", ("number", 1, 1)))), [])

    def test_a_told_list_is_the_askers_own(self):
        for saying in (A, ("number", 0, 1), ("and", A, B)):
            told = wires_in(saying)
            due = list(told)
            self.assertIs(type(told), list)
            told.append("z")
            told.insert(0, "y")
            self.assertEqual(wires_in(saying), due)


class WidthTest(unittest.TestCase):
    def setUp(self):
        # Each wire is called by its width: a has 1, h has 8.
        self.widths = {letter: place for place, letter in enumerate("abcdefgh", start=1)}

    def width(self, saying):
        before = copy.deepcopy(self.widths)
        told = width_of(saying, self.widths)
        self.assertEqual(self.widths, before)
        return told

    def wires(self):
        return [(("wire", name), width) for name, width in self.widths.items()]

    def test_wires(self):
        for wire, width in self.wires():
            self.assertEqual(self.width(wire), width)
        self.assertIsNone(self.width(("wire", "x")))
        self.assertIsNone(width_of(A, {}))

    def test_numbers(self):
        for width in range(1, 9):
            self.assertEqual(self.width(("number", 1, width)), width)
            self.assertEqual(width_of(("number", 0, width), {}), width)

    def test_of_one(self):
        for wire, width in self.wires():
            self.assertEqual(self.width(("not", wire)), width)
            for k in range(9):
                self.assertEqual(self.width(("up", k, wire)), width)
                self.assertEqual(self.width(("down", k, wire)), width)

    def test_of_two(self):
        for one, width in self.wires():
            for other, second in self.wires():
                for word in ("and", "or", "odd", "sum", "less"):
                    self.assertEqual(self.width((word, one, other)), width if width == second else None)
                for word in ("under", "same"):
                    self.assertEqual(self.width((word, one, other)), 1 if width == second else None)
                both = width + second
                self.assertEqual(self.width(("join", one, other)), both if both <= 8 else None)

    def test_choice(self):
        for by, width in self.wires():
            for one, first in self.wires():
                for other, second in self.wires():
                    due = first if width == 1 and first == second else None
                    self.assertEqual(self.width(("choice", by, one, other)), due)

    def test_cut(self):
        for wire, width in self.wires():
            for low in range(8):
                for own in range(1, 9):
                    self.assertEqual(self.width(("cut", low, own, wire)), own if low + own <= width else None)

    def test_table(self):
        for wire, width in self.wires():
            for many in (2, 4, 8, 16):
                for own in range(1, 9):
                    due = own if many == 2 ** width else None
                    self.assertEqual(self.width(("table", own, (1,) * many, wire)), due)

    def test_no_table_of_more_than_four(self):
        self.assertIsNone(self.width(("table", 2, (1,) * 32, ("wire", "e"))))

    def test_none_at_each_place(self):
        lacks = ("wire", "x")
        unlike = ("and", ("wire", "a"), ("wire", "b"))
        too_wide = ("join", ("wire", "h"), ("wire", "a"))
        for form, kinds in FORMS:
            for place, kind in enumerate(kinds, start=1):
                for none in (lacks, unlike, too_wide):
                    if kind == "saying":
                        self.assertIsNone(self.width(swapped(form, place, none)))

    def test_none_within_what_would_have_a_width(self):
        none = ("same", ("wire", "a"), ("wire", "b"))
        self.assertIsNone(self.width(none))
        for saying in (("not", none), ("choice", ("wire", "a"), none, ("wire", "a")), ("cut", 0, 1, none),
                       ("table", 1, (0, 1), none), ("same", none, none), ("under", none, none), ("and", none, none),
                       ("join", none, ("wire", "a")), ("choice", none, ("wire", "a"), ("wire", "a")),
                       ("choice", ("wire", "a"), none, none), ("up", 1, none), ("cut", 0, 1, ("not", none))):
            self.assertIsNone(self.width(saying), saying)

    def test_widths_of_sayings_within_sayings(self):
        bit = ("under", ("wire", "h"), ("wire", "h"))
        self.assertEqual(self.width(("choice", bit, ("wire", "c"), ("cut", 2, 3, ("wire", "e")))), 3)
        self.assertEqual(self.width(("join", ("join", bit, bit), ("wire", "f"))), 8)
        self.assertIsNone(self.width(("join", ("join", bit, bit), ("wire", "g"))))
        self.assertEqual(self.width(("table", 7, (1,) * 16, ("join", ("wire", "b"), ("wire", "b")))), 7)

    def test_full_names(self):
        self.assertEqual(width_of(("not", ("wire", "u.0.a")), {"u.0.a": 5}), 5)


if __name__ == "__main__":
    unittest.main()
