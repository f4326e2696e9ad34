"""The errors of this package. Each one keeps in what the thing that is bad."""


class Refused(ValueError):
    """What all errors of this package have in common."""

    def __init__(self, what):
        self.what = what


class BadSize(Refused):
    """A number of positions, places or roads that is not allowed."""


class BadRoad(Refused):
    """A road that is none, by its index."""


class Parted(Refused):
    """A position or a place to which no roads lead from 0."""


class BadLength(Refused):
    """A length that is not allowed, or the index of a road that has one."""


class BadLamp(Refused):
    """A wrong number of lamps, or the index of what is no lamp."""


class BadPlace(Refused):
    """A place, or a position of a web, that is none."""


class BadState(Refused):
    """A row of another length, or the index of what is no position."""


class BadDeed(Refused):
    """A deed that cannot be done."""


class BadCount(Refused):
    """A number out of its range."""


class BadRow(Refused):
    """An entry of a row that is not allowed there."""


class BadPurse(Refused):
    """A purse, or what is put into it, that is not allowed."""


class BadWorth(Refused):
    """A wrong number of worths or weights, or the index of one out of range."""


class BadEnds(Refused):
    """Ends that are not allowed."""


class NotTree(Refused):
    """A land with a ring where a tree is needed."""


class NotRing(Refused):
    """A tree where a land with a ring is needed."""


class TooMany(Refused):
    """More of something than is allowed."""


class Dear(Refused):
    """A cost above what the purse holds."""


class BadText(Refused):
    """A text that cannot be read, by the index of its first bad row."""


class BadWord(Refused):
    """A row that is not understood."""


class NothingToUndo(Refused):
    """No deed stands."""


class NothingToRedo(Refused):
    """No deed is undone."""
