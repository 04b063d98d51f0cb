"""Moded cuts, and which piece opened what which piece shut."""

from nearreach.cuts import piece_at
from nearreach.machines import deed_of, mode_tables, pile_behind
from nearreach.tables import looked_text


def moded_cut(machine, start, text):
    """The moded cut from a mode: (list of (mode, kind, start, end), place, why, pile); NoText."""
    looked_text(machine[0], text)
    tables = mode_tables(machine)
    pieces = []
    place = 0
    pile = (start,)
    found = piece_at(tables[start], text, place)
    while found is not None:
        kind, end = found
        mode = pile[-1]
        later = pile_behind(pile, deed_of(machine, mode, kind))
        if later is None:
            return (pieces, place, "low", pile)
        pieces.append((mode, kind, place, end))
        place = end
        pile = later
        found = piece_at(tables[pile[-1]], text, place)
    return (pieces, place, "end" if place == len(text) else "none", pile)


def partners(machine, start, text):
    """The pairs (number of the piece that opened, of the one that shut), as they were shut; a list. NoText."""
    pieces, place, why, pile = moded_cut(machine, start, text)
    openers = []
    pairs = []
    for number, (mode, kind, low, high) in enumerate(pieces):
        deed = deed_of(machine, mode, kind)
        if deed[0] == "open":
            openers.append(number)
        if deed[0] == "shut":
            # The start alone wasn't opened by a piece, and it is never shut.
            pairs.append((openers.pop(), number))
    return pairs
