"""The crowds of a book, and which crowds, or rooms, can be one room."""

from nearreach.books import book_spread, crowd_kind
from nearreach.plain import is_number_from, is_row, rising
from nearreach.spreads import behind
from nearreach.tables import MOST_ROOMS


def is_crowd(thing, places):
    """True just where thing, whatever it is, is a crowd of places numbered from 1 to places."""
    if not is_row(thing, 0, places + 1) or not all([is_number_from(place, 0, places) for place in thing]):
        return False
    return thing == (0,) or (0 not in thing and thing == rising(thing))


def crowds_behind(tongue, spread, crowd):
    """The crowds behind a crowd in a book's spread, one for each sign of the tongue."""
    signs, owners, nexts, lasts = spread
    return [behind((signs, nexts, lasts), crowd, sign) for sign in tongue]


def crowds_of(book):
    """The crowds to which words lead, in the order of the least words; told with their goes and kinds.

    The goes have for each crowd a row with the number of the crowd behind it by each sign.
    """
    spread = book_spread(book)
    crowds = [(0,)]
    numbers = {(0,): 0}
    goes = []
    while len(goes) < len(crowds):
        row = crowds_behind(book[0], spread, crowds[len(goes)])
        for crowd in row:
            if crowd not in numbers:
                numbers[crowd] = len(crowds)
                crowds.append(crowd)
        goes.append([numbers[crowd] for crowd in row])
    return crowds, goes, [crowd_kind(spread, crowd) for crowd in crowds]


def numbered(keys):
    """For each key its number, keys being numbered from 0 as they first come."""
    numbers = {}
    for key in keys:
        if key not in numbers:
            numbers[key] = len(numbers)
    return [numbers[key] for key in keys]


def merged(goes, kinds):
    """For each room (or crowd) the number of the room that all those alike can be, numbered as they first come.

    Where that makes more rooms than a table may have, they needn't be parted to the end.
    """
    rooms = numbered(kinds)
    count = 0
    # Each turn parts what words of one sign more part; after one that parts nothing no longer word does.
    while count <= max(rooms) < MOST_ROOMS:
        count = max(rooms) + 1
        rooms = numbered([(room, tuple([rooms[to] for to in row])) for room, row in zip(rooms, goes)])
    return rooms


def merged_table(tongue, goes, kinds, rooms):
    """The table whose rooms are told for each room (or crowd) of some goes and kinds."""
    firsts = [rooms.index(room) for room in range(max(rooms) + 1)]
    rows = [tuple([rooms[to] for to in goes[first]]) for first in firsts]
    return (tongue, tuple(rows), tuple([kinds[first] for first in firsts]))
