"""The refusals: all straight under ReachError, none under another."""


class ReachError(ValueError):
    """Any refusal."""


class NoWord(ReachError):
    """A number that no word has, or a word of too many signs."""


class NoShape(ReachError):
    """A text that writes no shape."""


class NoBook(ReachError):
    """A thing that is no book."""


class TooHeavy(ReachError):
    """Shapes that weigh too much."""


class NoPlace(ReachError):
    """A thing that is no number of a place."""


class NoTable(ReachError):
    """A thing that is no table."""


class NoText(ReachError):
    """A thing that is no text of the tongue."""


class TooMany(ReachError):
    """A book whose table would have too many rooms."""


class Closed(ReachError):
    """A reader that is closed."""


class Stopped(ReachError):
    """A reader that is stopped."""


class Unlike(ReachError):
    """Two tongues that are not the same text."""


class NoModes(ReachError):
    """A thing that is no moded book, or no machine."""


class NoQuote(ReachError):
    """A text that is no quote."""


class NoLine(ReachError):
    """A line that can't stand, with its number."""

    def __init__(self, line):
        self.line = line
