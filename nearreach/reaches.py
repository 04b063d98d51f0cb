"""The reach of a table, and the heights of its rooms."""

from nearreach.hopes import hopes
from nearreach.plain import is_number, is_row


def reach(table):
    """The least number that is enough for the table, or None."""
    kinds = table[2]
    return reach_from(table, hopes(table), [room for room, kind in enumerate(kinds) if kind != -1])


def reach_of(table, kind):
    """The least number that is enough where the one text's first piece is of the kind, or None."""
    kinds = table[2]
    return reach_from(table, hopes(table), [room for room, other in enumerate(kinds) if other == kind])


def reach_from(table, hope, starts):
    """The greatest count of signs that lead from some of the rooms to a room with a kind, none such between.

    0 where none lead so, None where there is no greatest.
    """
    tongue, goes, kinds = table
    most = 0
    layer = starts
    # A way through as many rooms as there are and one more goes through a room twice, and so may be ever longer.
    for count in range(1, len(goes) + 2):
        led = sorted({to for room in layer for to in goes[room]})
        if any([kinds[to] != -1 for to in led]):
            most = count
        layer = [to for to in led if kinds[to] == -1 and hope[to]]
        if not layer:
            return most
    return None


def rooms_behind(table, hope):
    """For each room True where it is behind a piece, else False."""
    tongue, goes, kinds = table
    found = [room for room, kind in enumerate(kinds) if kind != -1]
    looked = 0
    while looked < len(found):
        row = goes[found[looked]]
        for to in row:
            if hope[to] and to not in found:
                found.append(to)
        looked += 1
    return [room in found for room in range(len(goes))]


def heights(table):
    """For each room its height, or None where the reach is None."""
    if reach(table) is None:
        return None
    hope = hopes(table)
    behind = rooms_behind(table, hope)
    return tuple([height(table, hope, behind, room) for room in range(len(behind))])


def height(table, hope, behind, room):
    """The height of one room."""
    if behind[room]:
        return reach_from(table, hope, [room])
    return -2 if hope[room] else -1


def heights_hold(table, number, rows):
    """True just where rows, whatever it is, holds as heights for the number."""
    rooms = len(table[1])
    if not is_row(rows, rooms, rooms) or not all([is_number(high) and high >= -2 for high in rows]):
        return False
    return all([height_holds(table, number, rows, room) for room in range(rooms)])


def height_holds(table, number, rows, room):
    """True just where the height of one room fits its kind, the number, and the rooms to which signs lead."""
    tongue, goes, kinds = table
    high = rows[room]
    if kinds[room] != -1 and not 0 <= high <= number:
        return False
    if high == -2:
        return True
    if high == -1:
        return all([kinds[to] == -1 and rows[to] == -1 for to in goes[room]])
    return all([may_lead(high, kinds[to], rows[to]) for to in goes[room]])


def may_lead(high, kind, to):
    """True just where a room that is 0 high or more may lead to one of this kind that is to high."""
    if to == -2:
        return False
    return high >= 1 if kind != -1 else high > to
