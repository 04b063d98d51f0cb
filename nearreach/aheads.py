"""Ahead rows: from which rooms what stands ahead leads to a piece; and the cut by them."""

from nearreach.plain import is_same
from nearreach.tables import looked_text, room_from


def ahead_rows(table, text):
    """For each place the rising rooms from which what stands behind it leads to a room with a kind; NoText."""
    looked_text(table[0], text)
    # From the end on: a row comes of the sign at its place and of the row at the next one.
    rows = [()]
    for sign in text[::-1]:
        rows.append(row_ahead(table, sign, rows[-1]))
    return tuple(rows[::-1])


def row_ahead(table, sign, later):
    """The row of a place at which the sign stands, later being the row of the next place."""
    tongue, goes, kinds = table
    number = tongue.index(sign)
    led = [row[number] for row in goes]
    return tuple([room for room, to in enumerate(led) if kinds[to] != -1 or to in later])


def rows_hold(table, text, rows):
    """True just where rows, whatever it is, is the row of the text's ahead rows."""
    return is_same(rows, ahead_rows(table, text))


def cut_by(table, text, rows):
    """The cut of a text by its ahead rows: (list of (kind, start, end), place)."""
    kinds = table[2]
    pieces = []
    place = 0
    while 0 in rows[place]:
        start = place
        room = 0
        # As long as a longer piece stands ahead; so the last room gone to has a kind, and no sign is gone over twice.
        while room in rows[place]:
            room = room_from(table, room, text[place])
            place += 1
        pieces.append((kinds[room], start, place))
    return (pieces, place)
