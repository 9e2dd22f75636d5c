"""Rows of passes."""

from lampforge.agree import agree
from lampforge.errors import NoWord
from lampforge.heard import heard
from lampforge.known import known
from lampforge.like import like
from lampforge.low import low
from lampforge.moved import moved

WORDS = ("heard", "known", "like", "low", "agree", "moved")


def forge(work, text):
    """For each word of a row of passes (word, work, paper), each pass made on the work behind the one ahead."""
    told = []
    for word in words_of(text):
        both = passed(work, word)
        work = both[0]
        told.append((word, both[0], both[1]))
    return told


def words_of(text):
    """The words of a row of passes; all else is refused."""
    if text == "":
        return []
    words = text.split(" ") if isinstance(text, str) else [text]
    if not all([word in WORDS for word in words]):
        raise NoWord("this is no row of passes")
    return words


def passed(work, word):
    """What one pass makes."""
    if word == "heard":
        return heard(work)
    if word == "known":
        return known(work)
    if word == "like":
        return like(work)
    if word == "low":
        return low(work)
    if word == "agree":
        return agree(work)
    return moved(work)
