"""The errors that the package raises."""


class NoLink(LookupError):
    """The RING has no LINK of this number."""

    def __init__(self, link):
        self.link = link


class NothingDone(LookupError):
    """There is nothing that could be taken back or done once more."""


class BadText(ValueError):
    """A text has a fault in this line, counted from 0."""

    def __init__(self, line):
        self.line = line


class CanNot(ValueError):
    """What is asked for does not exist."""


class TooMany(ValueError):
    """What is asked for has more parts than are told."""


class Unfit(ValueError):
    """An argument is not what it has to be."""
