"""Spread plans: parts within parts brought to wire and box rows alone."""

from lampforge.sayings import sayings_in


def spread(plan):
    """The spread plan (ins, outs, rows) of a plan that the looker lets by, rings or none."""
    parts = {}
    for part in plan:
        # Parts that bring no row are left out: of these a small plan may ask for more copies
        # than could ever be walked through.
        if brings_rows(part, parts):
            parts[part[0]] = part
    last = plan[-1]
    return (list(last[1]), list(last[2]), rows_of(last, "", parts))


def brings_rows(part, parts):
    """Whether a row that asks for a part brings any row, `parts` being those ahead that do."""
    # Outs need not be looked at: what drives them brings rows.
    if len(part[1]) > 0:
        return True
    return any([row[0] in ("wire", "box") or row[-3] in parts for row in part[3]])


def rows_of(part, ahead, parts):
    """The wire and box rows of a part, with a text ahead of its names."""
    rows = []
    for row in part[3]:
        if row[0] in ("wire", "box"):
            rows.append((row[0], ahead + row[1]) + row[2:-1] + (renamed(row[-1], ahead),))
        elif row[-3] in parts:
            rows.extend(rows_of_use(row, ahead, parts))
    return rows


def rows_of_use(row, ahead, parts):
    """The rows that a part or times row brings, copy by copy, and at last the names that it drives."""
    inner = parts[row[-3]]
    rows = []
    sayings = [renamed(saying, ahead) for saying in row[-2]]
    for front in fronts_of(row, ahead):
        for port, saying in zip(inner[1], sayings):
            rows.append(("wire", front + port[0], port[1], saying))
        rows.extend(rows_of(inner, front, parts))
        sayings = [("wire", front + port[0]) for port in inner[2]]
    for name, port, saying in zip(row[-1], inner[2], sayings):
        rows.append(("wire", ahead + name, port[1], saying))
    return rows


def fronts_of(row, ahead):
    """The texts ahead of names in the copies of a part or times row, in order."""
    front = ahead + row[-4] + "."
    if row[0] == "part":
        return [front]
    return [front + str(copy) + "." for copy in range(row[1])]


def renamed(saying, ahead):
    """A saying with a text ahead of the names of its wires."""
    if saying[0] == "wire":
        return ("wire", ahead + saying[1])
    inner = sayings_in(saying)
    return saying[:len(saying) - len(inner)] + tuple([renamed(piece, ahead) for piece in inner])
