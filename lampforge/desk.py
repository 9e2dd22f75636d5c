"""The desk: works kept by names, told and asked by texts."""

from lampforge.beats import run
from lampforge.errors import NoName, NoPaper, NoRow, NoText, NoWord
from lampforge.figures import is_figures
from lampforge.forge import WORDS, passed
from lampforge.joint import meet
from lampforge.looks import look
from lampforge.making import made
from lampforge.papers import look_two
from lampforge.plantexts import read_plan
from lampforge.shows import beats_text, meeting_text, read_beats, size_text
from lampforge.words import is_between, is_name
from lampforge.worktexts import paper_text, read_paper, read_work, work_text

MOST_MEETING = 500

# By the first word of a text: what its other words are, and whether something may stand behind the row.
ROWS = {
    "make": (("name",), True),
    "work": (("name",), True),
    "show": (("name",), False),
    "size": (("name",), False),
    "run": (("name",), True),
    "pass": (("name", "name", "word"), False),
    "paper": ((), False),
    "look": (("name", "name"), True),
    "meet": (("name", "name", "most"), False),
}


class Desk:
    """Keeps works by names, and the paper of the last pass."""

    def __init__(self):
        self.kept_works = {}
        self.last_paper = None

    def say(self, text):
        """The answer to a text; what is refused changes nothing."""
        if not isinstance(text, str):
            raise NoRow("a text is due")
        middle = text.find("\n")
        # Nothing behind is not the same as a text without signs behind.
        behind = None if middle < 0 else text[middle + 1:]
        words = (text if middle < 0 else text[:middle]).split(" ")
        if not is_row(words, behind):
            raise NoRow("the desk knows no such row")
        return self.answer(words, behind)

    def answer(self, words, behind):
        """The answer to a row that the desk knows."""
        if words[0] == "make":
            return self.make_work(words[1], behind)
        if words[0] == "work":
            return self.keep_work(words[1], read_work(behind))
        if words[0] == "show":
            return work_text(self.work_by(words[1]))
        if words[0] == "size":
            return size_text(self.work_by(words[1]))
        if words[0] == "run":
            return self.run_work(words[1], read_beats(behind))
        if words[0] == "pass":
            return self.pass_work(words[1], words[2], words[3])
        if words[0] == "paper":
            return self.show_paper()
        if words[0] == "look":
            return self.look_at(words[1], words[2], read_paper("" if behind is None else behind))
        return meeting_text(meet(self.work_by(words[1]), self.work_by(words[2]), int(words[3])))

    def work_by(self, name):
        """The work that stands by a name."""
        if name not in self.kept_works:
            raise NoName(name, name)
        return self.kept_works[name]

    def keep_work(self, name, work):
        """Lets a work stand by a name."""
        self.kept_works[name] = work
        return "ok"

    def make_work(self, name, text):
        """Lets the work made of a plan stand by a name."""
        plan = read_plan(text)
        look(plan)
        return self.keep_work(name, made(plan))

    def run_work(self, name, beats):
        """What a work tells at beats."""
        work = self.work_by(name)
        if not all([len(row) == work[0] for row in beats]):
            raise NoText("a beat has a sign for each in")
        return beats_text(run(work, beats))

    def pass_work(self, new, old, word):
        """Lets the work that a pass makes of another stand by a name."""
        work = self.work_by(old)
        # Not left to rows of passes: there the text without signs is a row of none, here it is another word.
        if word not in WORDS:
            raise NoWord("there is no such pass")
        both = passed(work, word)
        self.last_paper = both[1]
        return self.keep_work(new, both[0])

    def show_paper(self):
        """The text of the paper of the last pass."""
        if self.last_paper is None:
            raise NoRow("there was no pass yet")
        return paper_text(self.last_paper)

    def look_at(self, one, other, paper):
        """Whether a paper is let by for two works, or where it fails."""
        try:
            look_two(self.work_by(one), self.work_by(other), paper)
        except NoPaper as e:
            return "no " + e.where + " " + str(e.at)
        return "yes"


def is_row(words, behind):
    """Whether words are a first row that the desk knows, with something behind only where it may be."""
    if words[0] not in ROWS:
        return False
    kinds = ROWS[words[0]][0]
    if len(words) != 1 + len(kinds):
        return False
    if behind is not None and not ROWS[words[0]][1]:
        return False
    return all([is_fit(word, kind) for word, kind in zip(words[1:], kinds)])


def is_fit(word, kind):
    """Whether a word of a first row is of its kind."""
    if kind == "name":
        return is_name(word)
    if kind == "most":
        return is_figures(word) and is_between(int(word), 1, MOST_MEETING)
    # Another word than the six, the one without signs too, is no fault of the row: it is refused behind the names.
    return True
