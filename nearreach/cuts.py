"""First pieces and cuts."""

from nearreach.plain import is_same
from nearreach.tables import looked_text, rooms_along


def first_piece(table, text, at):
    """The longest stretch with a kind that begins at the place, as (kind, end), or None; NoText."""
    return piece_at(table, looked_text(table[0], text), at)


def piece_at(table, text, at):
    """The first piece of a text of the tongue at the place, as (kind, end), or None."""
    kinds = table[2]
    found = None
    # The first room is that of the stretch without signs, and never has a kind.
    for end, room in enumerate(rooms_along(table, 0, text[at:]), start=at):
        if kinds[room] != -1:
            found = (kinds[room], end)
    return found


def cut(table, text):
    """The cut of a text: (list of (kind, start, end), place); NoText."""
    looked_text(table[0], text)
    pieces = []
    place = 0
    found = piece_at(table, text, place)
    while found is not None:
        kind, end = found
        pieces.append((kind, place, end))
        place = end
        found = piece_at(table, text, place)
    return (pieces, place)


def cut_holds(table, text, pieces, place):
    """True just where pieces and place, whatever they are, are those of the cut."""
    told, end = cut(table, text)
    return isinstance(pieces, list) and is_same(tuple(pieces), tuple(told)) and is_same(place, end)
