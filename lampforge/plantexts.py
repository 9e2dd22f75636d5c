"""The texts of plans."""

from lampforge.errors import NoText
from lampforge.figures import number_of, numbers_of, words_of
from lampforge.plans import is_plan
from lampforge.rows import rows_of, sections_of, text_of, words_behind
from lampforge.words import FORMS, is_word

# Far more than any plan has, and few enough for calls within calls.
MOST_DEEP_READ = 60


def read_plan(text):
    """The plan that a text tells; what is no such text is refused."""
    plan = []
    rows = []
    for row in rows_of(text):
        if row[0] == "end":
            words_behind(row, 0)
            plan.append(read_part(rows))
            rows = []
        else:
            rows.append(row)
    if len(rows) > 0 or not is_plan(plan):
        raise NoText("the text tells no plan")
    return plan


def read_part(rows):
    """The part that rows tell, without the row at its end."""
    sections = sections_of(rows, ("part", "in", "out"))
    if len(sections[0]) != 1:
        raise NoText("a part begins with one row of its own")
    name = words_behind(sections[0][0], 1)[0]
    ins = tuple([read_port(row) for row in sections[1]])
    outs = tuple([read_port(row) for row in sections[2]])
    return (name, ins, outs, tuple([read_row(row) for row in sections[3]]))


def read_port(row):
    """The in or out that a row tells."""
    words = words_behind(row, 2)
    return (words[0], number_of(words[1]))


def read_row(row):
    """The row of a part that a row of words tells."""
    if "=" not in row:
        raise NoText("a row of a part has a sign = in it")
    middle = row.index("=")
    head = row[:middle]
    sayings = read_sayings(row[middle + 1:])
    if row[0] == "wire" and len(head) == 3 and len(sayings) == 1:
        return ("wire", head[1], number_of(head[2]), sayings[0])
    if row[0] == "box" and len(head) == 4 and len(sayings) == 1:
        return ("box", head[1], number_of(head[2]), number_of(head[3]), sayings[0])
    if row[0] == "use" and len(head) >= 3:
        return ("part", head[1], head[2], sayings, tuple(head[3:]))
    if row[0] == "times" and len(head) >= 4:
        return ("times", number_of(head[1]), head[2], head[3], sayings, tuple(head[4:]))
    raise NoText("this is no row of a part")


def read_sayings(words):
    """The sayings that words tell, one behind another."""
    sayings = ()
    place = 0
    while place < len(words):
        read = read_saying(words, place, 1)
        sayings = sayings + (read[0],)
        place = read[1]
    return sayings


def read_saying(words, place, deep):
    """The saying that begins at a place, and the place behind it."""
    if place >= len(words) or deep > MOST_DEEP_READ:
        raise NoText("a saying is due")
    if not is_word(words[place]):
        return (read_leaf(words[place]), place + 1)
    read = read_front(words, place)
    saying = read[0]
    place = read[1]
    form = FORMS[saying[0]]
    for inner in range(form[0] - form[1]):
        read = read_saying(words, place, deep + 1)
        saying = saying + (read[0],)
        place = read[1]
    return (saying, place)


def read_leaf(word):
    """The wire or number that a word tells."""
    if ":" not in word:
        return ("wire", word)
    middle = word.find(":")
    return ("number", number_of(word[:middle]), number_of(word[middle + 1:]))


def read_front(words, place):
    """What stands ahead of the sayings of a saying, its word first, and the place behind it."""
    word = words[place]
    if word in ("wire", "number"):
        raise NoText("wires and numbers are written without a word")
    if word != "table":
        behind = place + FORMS[word][1]
        return ((word,) + numbers_at(words, place + 1, behind), behind)
    start = place + 3
    sizes = numbers_at(words, place + 1, start)
    return ((word, sizes[0], numbers_at(words, start, start + sizes[1])), start + sizes[1])


def numbers_at(words, start, behind):
    """The numbers at the places from one on and ahead of another."""
    if behind > len(words):
        raise NoText("numbers are due")
    return numbers_of(words[start:behind])


def plan_text(plan):
    """The text of a plan."""
    rows = []
    for part in plan:
        rows.append(["part", part[0]])
        rows.extend([["in", port[0], str(port[1])] for port in part[1]])
        rows.extend([["out", port[0], str(port[1])] for port in part[2]])
        rows.extend([words_of_row(row) for row in part[3]])
        rows.append(["end"])
    return text_of(rows)


def words_of_row(row):
    """The words of a row of a part."""
    if row[0] in ("wire", "box"):
        return [row[0], row[1]] + words_of(row[2:-1]) + ["="] + words_of_saying(row[-1])
    head = ["use"] if row[0] == "part" else ["times", str(row[1])]
    words = head + [row[-4], row[-3]] + list(row[-1]) + ["="]
    for saying in row[-2]:
        words.extend(words_of_saying(saying))
    return words


def words_of_saying(saying):
    """The words of a saying."""
    word = saying[0]
    if word == "wire":
        return [saying[1]]
    if word == "number":
        return [str(saying[1]) + ":" + str(saying[2])]
    behind = FORMS[word][1]
    if word == "table":
        words = [word, str(saying[1]), str(len(saying[2]))] + words_of(saying[2])
    else:
        words = [word] + words_of(saying[1:behind])
    for inner in saying[behind:]:
        words.extend(words_of_saying(inner))
    return words
