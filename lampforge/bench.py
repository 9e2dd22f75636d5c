"""The bench: works are made on it, gate by gate."""


class Bench:
    """Makes a work of some ins.

    Knots get their numbers as they are asked for. So where all boxes are asked for ahead of the first
    gate, the ends of the bench are those of its work.
    """

    def __init__(self, ins):
        self.ins = ins
        self.knots = 1 + ins
        self.firsts = []
        self.box_knots = []
        self.drivers = {}
        self.gates = []
        self.gate_knots = []
        self.known_gates = {}

    def into(self, k):
        """The end of an in, from 0."""
        return 2 * (1 + k)

    def box(self, first):
        """The end of a new box of a first bit."""
        self.firsts.append(first)
        self.box_knots.append(self.knots)
        return self.new_knot()

    def new_knot(self):
        """The end of a new knot."""
        self.knots = self.knots + 1
        return 2 * (self.knots - 1)

    def drive(self, box, end):
        """Drives a box, told by its end, by an end."""
        self.drivers[box // 2] = end

    def both(self, a, b):
        """An end that is 1 where both are."""
        end = both_without_gate(a, b)
        if end is not None:
            return end
        gate = (min(a, b), max(a, b))
        if gate not in self.known_gates:
            self.gates.append(gate)
            self.gate_knots.append(self.knots)
            self.known_gates[gate] = self.new_knot()
        return self.known_gates[gate]

    def either(self, a, b):
        """An end that is 1 where one of both is."""
        return self.both(a ^ 1, b ^ 1) ^ 1

    def odd(self, a, b):
        """An end that is 1 where just one of both is."""
        return self.both(self.either(a, b), self.both(a, b) ^ 1)

    def choice(self, c, a, b):
        """An end that is a where c is 1, else b."""
        if a == b:
            return a
        return self.either(self.both(c, a), self.both(c ^ 1, b))

    def work(self, outs):
        """The work as it is by now, with these outs."""
        places = list(range(1 + self.ins)) + [0] * (self.knots - 1 - self.ins)
        for place, knot in enumerate(self.box_knots + self.gate_knots):
            places[knot] = 1 + self.ins + place
        boxes = []
        for first, knot in zip(self.firsts, self.box_knots):
            boxes.append((first, placed(places, self.drivers.get(knot, 2 * knot))))
        gates = [(placed(places, one), placed(places, other)) for one, other in self.gates]
        return (self.ins, boxes, gates, [placed(places, end) for end in outs])


def both_without_gate(a, b):
    """An end that is 1 where both are, or None where only a gate tells it."""
    low = min(a, b)
    high = max(a, b)
    if low == 0 or low ^ 1 == high:
        return 0
    if low == 1 or low == high:
        return high
    return None


def placed(places, end):
    """An end of the work for an end of the bench, by the places of its knots."""
    return 2 * places[end // 2] + end % 2
