"""Gatherings: the crowds that lead to each room of a book's table."""

from nearreach.books import book_spread, crowd_kind
from nearreach.crowds import crowds_behind, crowds_of, is_crowd, merged
from nearreach.making import looked_rooms
from nearreach.plain import is_row


def gathering(book):
    """For each room of the book's table the rising crowds of the words that lead to it; TooMany."""
    crowds, goes, kinds = crowds_of(book)
    rooms = looked_rooms(merged(goes, kinds))
    rows = [[] for room in range(max(rooms) + 1)]
    for crowd, room in zip(crowds, rooms):
        rows[room].append(crowd)
    return tuple([tuple(sorted(row)) for row in rows])


def gathering_holds(book, table, rows):
    """True just where rows, whatever it is, holds as a gathering of the book for the table."""
    tongue, goes, kinds = table
    spread = book_spread(book)
    if book[0] != tongue or not is_row(rows, len(goes), len(goes)):
        return False
    if not all([are_crowds(row, len(spread[0]) - 1) for row in rows]):
        return False
    held = [{crowd: True for crowd in row} for row in rows]
    looks = looks_of(tongue, spread, [crowd for row in held for crowd in row])
    return (0,) in held[0] and all([crowds_hold(table, held, room, looks) for room in range(len(goes))])


def are_crowds(thing, places):
    """True just where thing, whatever it is, is a tuple of crowds."""
    return isinstance(thing, tuple) and all([is_crowd(crowd, places) for crowd in thing])


def looks_of(tongue, spread, crowds):
    """For each crowd its kind and the crowds behind it; a dict."""
    # One crowd may stand in every room, so it is reckoned only once.
    looks = {}
    for crowd in crowds:
        if crowd not in looks:
            looks[crowd] = (crowd_kind(spread, crowd), crowds_behind(tongue, spread, crowd))
    return looks


def crowds_hold(table, held, room, looks):
    """True just where each crowd of a room has its kind, and signs lead from it to crowds of the right rooms."""
    tongue, goes, kinds = table
    for crowd in held[room]:
        kind, nexts = looks[crowd]
        if kind != kinds[room]:
            return False
        if not all([after in held[to] for after, to in zip(nexts, goes[room])]):
            return False
    return True
