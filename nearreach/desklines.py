"""The lines of a desk, read."""

from nearreach.books import is_name
from nearreach.errors import NoLine
from nearreach.quotes import unquoted
from nearreach.shapetexts import FIGURES, read_shape

ALONE = ("undo", "keep", "show", "rooms", "reach", "alter", "close", "kept", "state")
WITH_QUOTE = ("tongue", "cut", "feed")
LATEST = 60


def read_line(line):
    """(word, thing): the line's word and what stands behind it, None where nothing may; NoLine, NoQuote, NoShape."""
    if not isinstance(line, str):
        raise NoLine(1)
    if line in ALONE:
        return (line, None)
    word, blank, rest = line.partition(" ")
    if word in WITH_QUOTE:
        return (word, unquoted(rest))
    if word == "rule":
        return (word, read_placed_rule(rest))
    if word == "drop":
        return (word, read_name(rest))
    if word == "late":
        return (word, read_number(rest))
    raise NoLine(1)


def read_placed_rule(text):
    """(number, rule) of a figure, a name and a written shape; NoLine, NoShape."""
    at, blank, rest = text.partition(" ")
    name, between, writing = rest.partition(" ")
    if at not in FIGURES:
        raise NoLine(1)
    return (int(at), (read_name(name), read_shape(writing)))


def read_name(text):
    """The text, where it can be a rule's name; NoLine."""
    if not is_name(text):
        raise NoLine(1)
    return text


def read_number(text):
    """The number from 0 to 60 that a text writes; NoLine."""
    if text not in [str(number) for number in range(LATEST + 1)]:
        raise NoLine(1)
    return int(text)
