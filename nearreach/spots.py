"""Spots: lines and columns of a text's places."""

from nearreach.errors import NoPlace
from nearreach.plain import is_number_from


def spot(text, at):
    """The (line, column) of a place of the text."""
    ahead = text[:at]
    # Where there is no line feed rfind tells -1, which makes the column right too.
    return (ahead.count("\n") + 1, at - ahead.rfind("\n"))


def place_at(text, line, column):
    """The place that has this line and column, whatever they are; NoPlace."""
    lines = text.split("\n")
    if not is_number_from(line, 1, len(lines)) or not is_number_from(column, 1, len(lines[line - 1]) + 1):
        raise NoPlace("no place has this spot")
    return sum([len(other) + 1 for other in lines[:line - 1]]) + column - 1


def spots(text, pieces):
    """For each piece (kind, spot of the start, spot of the end); a list."""
    return [(kind, spot(text, start), spot(text, end)) for kind, start, end in pieces]
