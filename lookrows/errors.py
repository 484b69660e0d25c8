"""The errors of the package. Each one keeps the objects with which it was created."""


class LookError(ValueError):
    """The base class of all errors of this package."""


class BadName(LookError):
    """What was passed is not a name."""

    def __init__(self, name):
        self.name = name


class NameTaken(LookError):
    """There is something of this name already."""

    def __init__(self, name):
        self.name = name


class NoStep(LookError):
    """There is no step of this name."""

    def __init__(self, name):
        self.name = name


class NoFile(LookError):
    """There is no file of this name."""

    def __init__(self, name):
        self.name = name


class NoReader(LookError):
    """There is no reader of this name."""

    def __init__(self, name):
        self.name = name


class NoRow(LookError):
    """There is no row of this name."""

    def __init__(self, name):
        self.name = name


class Clash(LookError):
    """Two plans say different things about a step or a file."""

    def __init__(self, name):
        self.name = name


class SameStep(LookError):
    """The same step was passed twice where two different ones are needed."""

    def __init__(self, name):
        self.name = name


class SameFile(LookError):
    """The same file was passed twice where two different ones are needed."""

    def __init__(self, name):
        self.name = name


class BadNumber(LookError):
    """What was passed is not an integer, or not one that may stand there."""

    def __init__(self, value):
        self.value = value


class ZeroRing(LookError):
    """Rules with shift 0 lead from step to step back to the first one."""

    def __init__(self, members):
        self.members = members


class BadItem(LookError):
    """An item of a run has a wrong form."""

    def __init__(self, place):
        self.place = place


class NotYet(LookError):
    """An occurrence is not possible, because another step has not occurred often enough."""

    def __init__(self, place, step):
        self.place = place
        self.step = step


class NoSet(LookError):
    """No set is in the bounds."""

    def __init__(self, members):
        self.members = members


class Barred(LookError):
    """What was asked for cannot be read in any run."""

    def __init__(self, pieces):
        self.pieces = pieces


class NotKept(LookError):
    """A wish about two files cannot be kept."""

    def __init__(self, first, second):
        self.first = first
        self.second = second


class NoRule(LookError):
    """There is no rule from the first step to the second one."""

    def __init__(self, first, second):
        self.first = first
        self.second = second


class TooEarly(LookError):
    """An item of a timed run comes too early."""

    def __init__(self, place):
        self.place = place


class TooFar(LookError):
    """The edition of the first file is too far ahead of that of the second one."""

    def __init__(self, first, second):
        self.first = first
        self.second = second


class BadGaps(LookError):
    """The gaps are not as many integers as are needed."""


class EmptyRow(LookError):
    """The row has no looks."""


class NothingBack(LookError):
    """There are not so many items to undo."""


class BadLine(LookError):
    """A line of a text has a wrong form, or what it says was refused."""

    def __init__(self, line):
        self.line = line
