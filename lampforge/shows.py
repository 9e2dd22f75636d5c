"""What the desk reads and shows beside plans, works and papers: beats, sizes and how two works meet."""

from lampforge.errors import NoText


def read_beats(text):
    """The beats that a text tells, a row of signs for each; None tells none."""
    if text is None:
        return []
    return [read_bits(row) for row in text.split("\n")]


def read_bits(row):
    """The bits that a row of signs tells."""
    if not all([sign in ("0", "1") for sign in row]):
        raise NoText("a beat is a row of signs 0 and 1")
    return [int(sign) for sign in row]


def beats_text(beats):
    """The text of beats, or of what is told at each."""
    return "\n".join(["".join([str(bit) for bit in row]) for row in beats])


def size_text(work):
    """How many ins, boxes, gates and outs a work has."""
    return " ".join([str(work[0])] + [str(len(part)) for part in work[1:]])


def meeting_text(met):
    """The text of how two works meet."""
    if met[0] == "alike":
        return "alike " + str(len(met[1]))
    if met[0] == "part":
        return "part\n" + beats_text(met[1])
    return "open"
