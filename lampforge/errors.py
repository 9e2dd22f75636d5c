"""The refusals of the program, each straight under ForgeError."""


class ForgeError(ValueError):
    """What all refusals of the program are."""


class NoPlan(ForgeError):
    """A thing is no plan."""


class NoName(ForgeError):
    """A name or label stands already, or none stands by it."""

    def __init__(self, part, name):
        ForgeError.__init__(self, f"{part}: the name {name} can not stand here")
        self.part = part
        self.name = name


class Twice(ForgeError):
    """A wire is driven twice, or an out is told twice."""

    def __init__(self, part, name):
        ForgeError.__init__(self, f"{part}: {name} is there twice")
        self.part = part
        self.name = name


class Never(ForgeError):
    """A wire is read that nothing drives."""

    def __init__(self, part, name):
        ForgeError.__init__(self, f"{part}: nothing drives {name}")
        self.part = part
        self.name = name


class NoWidth(ForgeError):
    """A saying has no width, or another one than is due."""

    def __init__(self, part, name):
        ForgeError.__init__(self, f"{part}: {name} has not the width that is due")
        self.part = part
        self.name = name


class NoPart(ForgeError):
    """A row asks for a part that is not there, or that does not fit."""

    def __init__(self, part, name):
        ForgeError.__init__(self, f"{part}: no part fits the row {name}")
        self.part = part
        self.name = name


class TooMuch(ForgeError):
    """A plan would be too large when it is spread."""


class Ring(ForgeError):
    """Wire rows wait for one another in a ring."""

    def __init__(self, names):
        ForgeError.__init__(self, "wires wait for one another in a ring")
        # A list of its own: what the maker does to theirs later is not to reach it.
        self.names = list(names)


class NoPair(ForgeError):
    """Two works can not be set against one another."""


class NoPaper(ForgeError):
    """A thing is no paper, or shows not what it is to show."""

    def __init__(self, where, at):
        ForgeError.__init__(self, f"the paper fails: {where} {at}")
        self.where = where
        self.at = at


class NoWord(ForgeError):
    """A text is no row of passes."""


class NoText(ForgeError):
    """A thing is not written as the texts are."""


class NoRow(ForgeError):
    """The desk knows no such row."""
