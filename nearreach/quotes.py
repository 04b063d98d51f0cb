"""Quotes: how a text of signs is written within a line."""

from nearreach.errors import NoQuote
from nearreach.plain import is_sign

WRITTEN = {"\\n": "\n", "\\>": ">", "\\\\": "\\"}


def quoted(text):
    """The quote of a text of signs."""
    return "<" + "".join([written_sign(sign) for sign in text]) + ">"


def written_sign(sign):
    """How a sign is written within a quote."""
    if sign == "\n":
        return "\\n"
    return "\\" + sign if sign in (">", "\\") else sign


def unquoted(text):
    """The text of a quote; NoQuote."""
    found = quote_at(text, 0) if isinstance(text, str) else None
    if found is None or found[1] != len(text):
        raise NoQuote("no quote")
    return found[0]


def quote_at(text, at):
    """(text of the quote that begins at the place, place behind the quote), or None where none begins there."""
    if text[at:at + 1] != "<":
        return None
    signs = []
    place = at + 1
    while text[place:place + 1] != ">":
        pair = text[place:place + 2]
        if pair in WRITTEN:
            signs.append(WRITTEN[pair])
            place += 2
        elif is_sign(pair[:1]) and pair[0] not in ("\n", "\\"):
            signs.append(pair[0])
            place += 1
        else:
            # A sign that can't stand there, or the text's end.
            return None
    return ("".join(signs), place + 1)
