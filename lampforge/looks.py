"""The looker: what of a plan is refused, and in which order its wires come."""

from lampforge.errors import Never, NoName, NoPart, NoPlan, NoWidth, Ring, TooMuch, Twice
from lampforge.plans import is_plan
from lampforge.sayings import sayings_in, width_of, wires_in
from lampforge.spread import spread

MOST_SPREAD_ROWS = 60
MOST_SPREAD_PIECES = 200


def look(plan):
    """None, or the refusal that is due first, of any thing."""
    if not is_plan(plan):
        raise NoPlan("this is no plan")
    parts = {}
    for part in plan:
        look_part(part, parts)
        parts[part[0]] = part
    look_size(plan)
    order_of(spread(plan)[2])


def look_part(part, parts):
    """Looks at one part, by the parts ahead of it."""
    if part[0] in parts:
        raise NoName(part[0], part[0])
    look_driven(part)
    for row in part[3]:
        if is_use(row) and not fits(row, parts):
            raise NoPart(part[0], row[-4])
    widths = widths_in(part, parts)
    for row in part[3]:
        look_sayings(part[0], row, parts, widths)
    look_outs(part, widths)


def is_use(row):
    """Whether a row is a part or times row; these have their label fourth from behind."""
    return row[0] in ("part", "times")


def look_driven(part):
    """Refuses a label that stands already, and what is driven twice."""
    labels = {}
    driven = {}
    for port in part[1]:
        drive_once(part[0], port[0], driven)
    for row in part[3]:
        if is_use(row):
            if row[-4] in labels:
                raise NoName(part[0], row[-4])
            labels[row[-4]] = True
        for name in driven_by(row):
            drive_once(part[0], name, driven)


def drive_once(part_name, name, driven):
    """Notes a name as driven, and refuses one that was so ahead."""
    if name in driven:
        raise Twice(part_name, name)
    driven[name] = True


def driven_by(row):
    """The names that a row drives, in order."""
    return row[-1] if is_use(row) else (row[1],)


def fits(row, parts):
    """Whether a part or times row asks for a part that is there, as that part is asked for."""
    if row[-3] not in parts:
        return False
    inner = parts[row[-3]]
    if len(row[-2]) != len(inner[1]) or len(row[-1]) != len(inner[2]):
        return False
    # Each copy's outs drive the ins of the next one, so both must be alike.
    return row[0] == "part" or [port[1] for port in inner[1]] == [port[1] for port in inner[2]]


def widths_in(part, parts):
    """The widths of all that is driven in a part, by names."""
    widths = dict(part[1])
    for row in part[3]:
        if is_use(row):
            for name, port in zip(row[-1], parts[row[-3]][2]):
                widths[name] = port[1]
        else:
            widths[row[1]] = row[2]
    return widths


def look_sayings(part_name, row, parts, widths):
    """Refuses wires that nothing drives and widths that are not due, saying by saying."""
    if is_use(row):
        name = row[-4]
        dues = [(saying, port[1]) for saying, port in zip(row[-2], parts[row[-3]][1])]
    else:
        name = row[1]
        dues = [(row[-1], row[2])]
    for saying, width in dues:
        for wire in wires_in(saying):
            if wire not in widths:
                raise Never(part_name, wire)
        if width_of(saying, widths) != width:
            raise NoWidth(part_name, name)


def look_outs(part, widths):
    """Refuses outs that are there twice, that nothing drives, or with another width."""
    told = {}
    for name, width in part[2]:
        if name in told:
            raise Twice(part[0], name)
        told[name] = True
        if name not in widths:
            raise Never(part[0], name)
        if widths[name] != width:
            raise NoWidth(part[0], name)


def look_size(plan):
    """Refuses a plan that would be too large when it is spread."""
    # Counted part by part: spreading itself might never come to its end.
    sizes = {}
    ports = {}
    for part in plan:
        rows = 0
        pieces = 0
        for row in part[3]:
            size = size_of_use(row, sizes, ports) if is_use(row) else (1, pieces_in(row[-1]))
            rows = rows + size[0]
            pieces = pieces + size[1]
        sizes[part[0]] = (rows, pieces)
        ports[part[0]] = (len(part[1]), len(part[2]))
    last = sizes[plan[-1][0]]
    if last[0] > MOST_SPREAD_ROWS or last[1] > MOST_SPREAD_PIECES:
        raise TooMuch("the plan would be too large when it is spread")


def size_of_use(row, sizes, ports):
    """How many rows and pieces a part or times row brings."""
    copies = row[1] if row[0] == "times" else 1
    inner = sizes[row[-3]]
    ins = ports[row[-3]][0]
    outs = ports[row[-3]][1]
    told = sum([pieces_in(saying) for saying in row[-2]])
    rows = copies * (ins + inner[0]) + outs
    # The ins of the later copies and the names at last are driven by one wire each.
    pieces = told + (copies - 1) * ins + copies * inner[1] + outs
    return (rows, pieces)


def pieces_in(saying):
    """How many pieces a saying has, each as often as it stands."""
    return 1 + sum([pieces_in(piece) for piece in sayings_in(saying)])


def order_of(rows):
    """The full names of the wire rows, each behind those that it waits for; rings are refused."""
    waits = waits_of(rows)
    readers = {}
    missing = {}
    for name in waits:
        missing[name] = len(waits[name])
        for wire in waits[name]:
            readers.setdefault(wire, []).append(name)
    order = [name for name in waits if missing[name] == 0]
    place = 0
    while place < len(order):
        for name in readers.get(order[place], []):
            missing[name] = missing[name] - 1
            if missing[name] == 0:
                order.append(name)
        place = place + 1
    if len(order) < len(waits):
        raise Ring(ring_in(waits, missing))
    return order


def waits_of(rows):
    """By the full name of each wire row those of the wire rows that it waits for, each once."""
    names = {}
    for row in rows:
        if row[0] == "wire":
            names[row[1]] = True
    waits = {}
    for row in rows:
        if row[0] == "wire":
            wires = dict([(wire, True) for wire in wires_in(row[3]) if wire in names])
            waits[row[1]] = list(wires)
    return waits


def ring_in(waits, missing):
    """A ring of wire rows, where some still miss others."""
    # Each row that misses one waits for another such row, so this way comes back to itself.
    way = []
    name = [row for row in waits if missing[row] > 0][0]
    while name not in way:
        way.append(name)
        name = [wire for wire in waits[name] if missing[wire] > 0][0]
    return way[way.index(name):]
