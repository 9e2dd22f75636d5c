"""The texts of works and papers."""

from lampforge.errors import NoText
from lampforge.figures import number_of, numbers_of, words_of
from lampforge.rows import rows_of, text_of, whole_sections, words_behind
from lampforge.works import is_work


def read_work(text):
    """The work that a text tells; what is no such text is refused."""
    sections = whole_sections(rows_of(text), ("ins", "box", "gate", "out"))
    if len(sections[0]) != 1:
        raise NoText("a work begins with one row of its ins")
    ins = numbers_behind(sections[0][0], 1)[0]
    boxes = [numbers_behind(row, 2) for row in sections[1]]
    gates = [numbers_behind(row, 2) for row in sections[2]]
    work = (ins, boxes, gates, [numbers_behind(row, 1)[0] for row in sections[3]])
    if not is_work(work):
        raise NoText("the text tells no work")
    return work


def numbers_behind(row, many):
    """The numbers behind the first word of a row, just so many, as a tuple."""
    return numbers_of(words_behind(row, many))


def work_text(work):
    """The text of a work."""
    rows = [["ins", str(work[0])]]
    rows.extend([["box"] + words_of(box) for box in work[1]])
    rows.extend([["gate"] + words_of(gate) for gate in work[2]])
    rows.extend([["out", str(end)] for end in work[3]])
    return text_of(rows)


def read_paper(text):
    """The paper that a text tells; what is no such text is refused."""
    rows = [] if text == "" else rows_of(text)
    sections = whole_sections(rows, ("kept", "start", "next", "now"))
    kept = [numbers_behind(row, 2) for row in sections[0]]
    starts = [read_step(row) for row in sections[1]]
    nexts = [read_step(row) for row in sections[2]]
    return (kept, starts, nexts, [read_step(row) for row in sections[3]])


def read_step(row):
    """The step that a row tells."""
    if len(row) < 5 or row[1] not in ("stands", "row") or row[4] != ":":
        raise NoText("a step is due")
    return (row[1], number_of(row[2]), number_of(row[3]), numbers_of(row[5:]))


def paper_text(paper):
    """The text of a paper."""
    rows = [["kept"] + words_of(pair) for pair in paper[0]]
    for word, steps in zip(("start", "next", "now"), paper[1:]):
        rows.extend([[word, step[0]] + words_of(step[1:3]) + [":"] + words_of(step[3]) for step in steps])
    return text_of(rows)
