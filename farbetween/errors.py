"""The refusals: one class for each kind, all of them straight under FarError."""


class FarError(ValueError):
    """Any refusal."""


class NoShare(FarError):
    """No fraction can be made of this."""


class NoHeap(FarError):
    """This is no heap."""


class NoCosts(FarError):
    """These are no costs for the heaps."""


class NoMachine(FarError):
    """No machine can be made of this; part is the name of the first thing amiss."""

    def __init__(self, part):
        self.part = part


class NoRoom(FarError):
    """The machine has no such room."""

    def __init__(self, room):
        self.room = room


class NoSign(FarError):
    """This is no sign, or not what is made of signs."""

    def __init__(self, sign):
        self.sign = sign


class NoFade(FarError):
    """This is no fade."""


class NoDepth(FarError):
    """This is no depth, or no length."""


class TooMany(FarError):
    """There are more of them than may be."""


class NoBook(FarError):
    """This is no book of sayings."""


class NoText(FarError):
    """The text cannot be read; at is the number of the first word amiss."""

    def __init__(self, at):
        self.at = at


class NoName(FarError):
    """Nothing can be kept by this as its name."""

    def __init__(self, name):
        self.name = name


class Taken(FarError):
    """Something is kept by this name already."""

    def __init__(self, name):
        self.name = name


class NotThere(FarError):
    """Nothing is there by this name."""

    def __init__(self, name):
        self.name = name


class TooFar(FarError):
    """The machines are farther apart than they may be; by is how far apart they are."""

    def __init__(self, by):
        self.by = by


class NoRow(FarError):
    """This is none of the rows that the desk answers."""
