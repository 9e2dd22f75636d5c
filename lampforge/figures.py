"""Numbers as texts write them."""

from lampforge.errors import NoText

MOST_FIGURES = 9


def is_figures(word):
    """Whether a word is a number: one to nine figures, no nought ahead but in 0."""
    if not 1 <= len(word) <= MOST_FIGURES or not all(["0" <= sign <= "9" for sign in word]):
        return False
    return word == "0" or word[0] != "0"


def number_of(word):
    """The number that a word tells; another word is refused."""
    if not is_figures(word):
        raise NoText("a number is due")
    return int(word)


def numbers_of(words):
    """The numbers that words tell."""
    return tuple([number_of(word) for word in words])


def words_of(numbers):
    """The words of numbers."""
    return [str(number) for number in numbers]
