import unittest

from lampforge.words import is_name, is_number, is_whole, two_to
from tests.things import ODD, RIGHT, WORDS, WRONG, nested


class WholeTest(unittest.TestCase):
    def test_whole_numbers(self):
        for number in (0, 1, 2, -1, 8, 9, 255, 10 ** 60 - 1, 1 - 10 ** 60):
            self.assertIs(is_whole(number), True, number)

    def test_truths_are_none(self):
        self.assertIs(is_whole(True), False)
        self.assertIs(is_whole(False), False)

    def test_other_things_are_none(self):
        for thing in (None, "", "1", "a", (), [], (1,), [1], [[1], (2,)], nested(1, 13), "9" * 60):
            self.assertIs(is_whole(thing), False, thing)


class NameTest(unittest.TestCase):
    def test_right_names(self):
        for name in RIGHT["name"]:
            self.assertIs(is_name(name), True, name)

    def test_each_letter_at_each_length(self):
        for letter in "abcdefghijklmnopqrstuvwxyz":
            for many in range(1, 9):
                self.assertIs(is_name(letter * many), True)
            self.assertIs(is_name(letter * 9), False)

    def test_wrong_names(self):
        for thing in WRONG["name"]:
            self.assertIs(is_name(thing), False, thing)

    def test_other_signs_at_each_place(self):
        signs = [chr(code) for code in range(256) if not 97 <= code <= 122]
        for sign in signs + ["\u0430", "\uff41", "\u017f", "\u03b1"]:
            self.assertIs(is_name(sign), False, sign)
            for place in range(8):
                text = "abcdefgh"[:place] + sign + "abcdefgh"[place + 1:]
                self.assertIs(is_name(text), False, text)

    def test_no_word_is_a_name(self):
        self.assertEqual(len(set(WORDS)), 16)
        for word in WORDS:
            self.assertIs(is_name(word), False, word)

    def test_a_word_with_a_letter_less_or_more(self):
        for word in WORDS:
            for other in (word[1:], word[:-1], "x" + word, word + "s", word[0] + "q" + word[1:]):
                self.assertIs(is_name(other), True, other)

    def test_words_in_other_letters(self):
        for word in WORDS:
            for other in (word.upper(), word.capitalize(), word + " ", word + "\n"):
                self.assertIs(is_name(other), False, other)

    def test_things_that_are_no_texts(self):
        for thing in (0, 97, None, True, False, ("a",), ["a"], ("a", "b"), ["a", "b"], nested("a", 13)):
            self.assertIs(is_name(thing), False, thing)


class NumberTest(unittest.TestCase):
    def test_numbers_of_each_width(self):
        for width in range(1, 9):
            for number in range(2 ** width):
                self.assertIs(is_number(number, width), True)
            for number in (-1, 2 ** width, 2 ** width + 1, 10 ** 59):
                self.assertIs(is_number(number, width), False, (number, width))

    def test_numbers_of_no_width(self):
        for width in WRONG["width"]:
            self.assertIs(is_number(0, width), False, width)

    def test_things_that_are_no_numbers(self):
        for thing in ODD:
            self.assertIs(is_number(thing, 8), False, thing)

    def test_powers(self):
        self.assertEqual([two_to(many) for many in range(12)], [2 ** many for many in range(12)])


if __name__ == "__main__":
    unittest.main()
