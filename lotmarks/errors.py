"""The errors of the package: each one directly under LotError."""


class LotError(ValueError):
    """Something was told that the package can't take."""


class BadWeb(LotError):
    """What was told is no list of rows of a web; index is that of the first wrong one."""

    def __init__(self, index):
        self.index = index


class UnknownCell(LotError):
    """There is no such cell."""

    def __init__(self, cell):
        self.cell = cell


class BadProgram(LotError):
    """What was told is no list of lots; index is that of the first wrong one."""

    def __init__(self, index):
        self.index = index


class BadNumber(LotError):
    """What was told is no number that may stand there."""

    def __init__(self, number):
        self.number = number


class BadRules(LotError):
    """What was told for this cell is no list of what its rule tells."""

    def __init__(self, cell):
        self.cell = cell


class BadWorth(LotError):
    """What was told for this cell is no worth, or no worths that it could read."""

    def __init__(self, cell):
        self.cell = cell


class BadName(LotError):
    """What was told is no name."""

    def __init__(self, name):
        self.name = name


class Held(LotError):
    """A pair of programs is held under this name already."""

    def __init__(self, name):
        self.name = name


class NotHeld(LotError):
    """No pair of programs is held under this name."""

    def __init__(self, name):
        self.name = name


class BadDeed(LotError):
    """What was told is no deed."""

    def __init__(self, deed):
        self.deed = deed


class Taken(LotError):
    """A cell with this name is there already."""

    def __init__(self, name):
        self.name = name


class Used(LotError):
    """This cell can't go: another one reads it, or it is the only one."""

    def __init__(self, cell):
        self.cell = cell


class NoDeed(LotError):
    """There is no deed to take back, or to do again."""


class BadTable(LotError):
    """What was told is no table of reads."""


class Ringed(LotError):
    """The renewings of this ring can't be put into lots."""

    def __init__(self, ring):
        self.ring = ring


class TooFew(LotError):
    """So few lots are not enough."""

    def __init__(self, number):
        self.number = number


class NotSweep(LotError):
    """The program is no sweep of the web."""


class BadMarks(LotError):
    """What was told is no dict from arrows to marks."""


class MarkRing(LotError):
    """No sweep and no race has the told marks: these arrows go round."""

    def __init__(self, arrows):
        self.arrows = arrows


class NoSuch(LotError):
    """Nothing has this number."""

    def __init__(self, number):
        self.number = number


class Unlike(LotError):
    """The marks of the sweep are not as told."""


class BadCells(LotError):
    """What was told is no list of different cells."""


class BadActs(LotError):
    """What was told are no acts of a race; index is that of the first wrong one."""

    def __init__(self, index):
        self.index = index


class NoLot(LotError):
    """The program has no lot with this index, or none behind it."""

    def __init__(self, index):
        self.index = index


class BadPiece(LotError):
    """What was told are no cells of a piece."""


class BadArrow(LotError):
    """What was told are no arrows of a piece; index is that of the first wrong one."""

    def __init__(self, index):
        self.index = index


class BadWave(LotError):
    """What was told is no wave of the piece."""


class BadText(LotError):
    """What was told is no text of a web or a program; line is the number of the first wrong one."""

    def __init__(self, line):
        self.line = line
