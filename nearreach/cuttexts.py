"""A text's cut by names, written in lines."""

from nearreach.changes import named_cut
from nearreach.quotes import quoted
from nearreach.spots import spot


def cut_text(book, text):
    """The text's cut by names, in lines; TooMany, NoText."""
    pieces, place = named_cut(book, text)
    lines = [f"{name} {spot_text(text, start)} {quoted(text[start:end])}\n" for name, start, end in pieces]
    if place < len(text):
        lines.append(f"fault {spot_text(text, place)}\n")
    return "".join(lines)


def spot_text(text, at):
    """The spot of a place as line and column."""
    line, column = spot(text, at)
    return f"{line}:{column}"
