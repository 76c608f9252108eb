"""The refusals of the program: each of them a class of its own, straight under TreeError."""


class TreeError(ValueError):
    """Any refusal."""


class NoTree(TreeError):
    """Houses and ties that are no tree."""


class NoHouse(TreeError):
    """What is no house."""


class NoSeat(TreeError):
    """What no seat, or no house with its seats, can be made of."""


class NoAsker(TreeError):
    """What is no asker, or one that doesn't stand as the deed asks."""


class NoLetter(TreeError):
    """A letter that can't come as things stand, or isn't on its way."""


class NoRight(TreeError):
    """What is no right's number, or no list of the rights' houses."""


class NoRow(TreeError):
    """What is no row for a world."""


class NoTie(TreeError):
    """Two houses that aren't tied."""


class Down(TreeError):
    """A house or a tie that is down."""


class NoMend(TreeError):
    """A mending that doesn't fit what is down."""


class NoText(TreeError):
    """A text that can't be read: its field line has the number of the first bad line, from 0."""

    def __init__(self, line):
        TreeError.__init__(self, f"line {line} can't be read")
        self.line = line


class NoLine(TreeError):
    """What the desk doesn't know as a row."""
