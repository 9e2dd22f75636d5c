"""Texts as rows of words: line ends between rows, a single blank between words."""

from lampforge.errors import NoText


def rows_of(text):
    """The rows of a text, each a list of its words; what is not written so is refused."""
    if not isinstance(text, str):
        raise NoText("a text is due")
    rows = [row.split(" ") for row in text.split("\n")]
    for row in rows:
        if "" in row:
            raise NoText("there are blanks or line ends too many")
    return rows


def text_of(rows):
    """The text of rows of words."""
    return "\n".join([" ".join(row) for row in rows])


def sections_of(rows, words):
    """Rows in sections: for each word, in order, the rows here that begin with it; at last all that is left."""
    sections = []
    place = 0
    for word in words:
        start = place
        while place < len(rows) and rows[place][0] == word:
            place = place + 1
        sections.append(rows[start:place])
    return sections + [rows[place:]]


def whole_sections(rows, words):
    """The same, where nothing may be left."""
    sections = sections_of(rows, words)
    if len(sections[-1]) > 0:
        raise NoText("a row is not due here")
    return sections[:-1]


def words_behind(row, many):
    """The words behind the first one of a row, just so many."""
    if len(row) != 1 + many:
        raise NoText("a row has words too few or too many")
    return row[1:]
