"""Foldings: which room of its least table each room of a table is."""

from nearreach.crowds import merged, numbered
from nearreach.plain import is_number_from, is_row
from nearreach.tables import rooms_led_to


def folding(table):
    """For each room the number of the room of the least table that it is."""
    tongue, goes, kinds = table
    rooms = merged(goes, kinds)
    order = rooms_led_to(goes)
    # A table's rooms needn't be numbered by the least words, but its least table's rooms are.
    numbers = dict(zip(order, numbered([rooms[room] for room in order])))
    return tuple([numbers[room] for room in range(len(goes))])


def folding_holds(table, other, rows):
    """True just where rows, whatever it is, holds as a folding of the table onto the other one."""
    rooms = len(table[1])
    if table[0] != other[0] or not is_row(rows, rooms, rooms):
        return False
    if not all([is_number_from(room, 0, len(other[1]) - 1) for room in rows]):
        return False
    return rows[0] == 0 and all([fold_holds(table, other, rows, room) for room in range(rooms)])


def fold_holds(table, other, rows, room):
    """True just where the room that rows tells for a room has its kind and leads where it leads."""
    told = rows[room]
    if other[2][told] != table[2][room]:
        return False
    return other[1][told] == tuple([rows[to] for to in table[1][room]])
