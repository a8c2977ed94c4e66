"""The errors of the program."""


class HomeError(ValueError):
    """The base class of all errors of the program."""


class InvalidLine(HomeError):
    """A line is wrong: `line` is its index, `column` an index in it, both from 0."""

    def __init__(self, line, column):
        self.line = line
        self.column = column


class InvalidPack(HomeError):
    """A byte list is the packed form of no text."""


class NotAnIndex(HomeError):
    """A byte list does not begin as an index does."""


class Truncated(HomeError):
    """A byte list ends before the index that it tells does."""


class Damaged(HomeError):
    """A byte list is no whole index, although it is long enough for one."""
