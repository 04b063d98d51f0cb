"""Tables: rooms, where signs lead from them, and their kinds."""

from nearreach.errors import NoTable, NoText
from nearreach.plain import is_number_from, is_row
from nearreach.tongues import is_text, is_tongue

MOST_ROOMS = 32
LAST_KIND = 5


def is_table(thing):
    """True just where thing, whatever it is, is a table."""
    if not is_row(thing, 3, 3):
        return False
    tongue, goes, kinds = thing
    if not is_tongue(tongue) or not is_row(goes, 1, MOST_ROOMS):
        return False
    if not all([is_go(row, len(tongue), len(goes)) for row in goes]):
        return False
    return are_kinds(kinds, len(goes)) and is_all_led_to(goes)


def is_go(thing, signs, rooms):
    """True just where thing is a row with the number of a room for each sign."""
    return is_row(thing, signs, signs) and all([is_number_from(room, 0, rooms - 1) for room in thing])


def are_kinds(thing, rooms):
    """True just where thing is a row with a kind, or -1, for each room, and -1 for the first."""
    if not is_row(thing, rooms, rooms):
        return False
    return all([is_number_from(kind, -1, LAST_KIND) for kind in thing]) and thing[0] == -1


def is_all_led_to(goes):
    """True just where some word leads to each room."""
    return len(rooms_led_to(goes)) == len(goes)


def rooms_led_to(goes):
    """The rooms to which words lead, in the order of the least words that lead to them."""
    found = [0]
    seen = {0: True}
    looked = 0
    while looked < len(found):
        row = goes[found[looked]]
        for room in row:
            if room not in seen:
                seen[room] = True
                found.append(room)
        looked += 1
    return found


def looked_table(thing):
    """The table that was handed in, whatever it is; NoTable."""
    if not is_table(thing):
        raise NoTable("no table")
    return thing


def looked_text(tongue, thing):
    """The text of the tongue that was handed in, whatever it is; NoText."""
    if not is_text(tongue, thing):
        raise NoText("no text of the tongue")
    return thing


def room_of(table, word):
    """The room behind the word; NoText."""
    return room_from(table, 0, looked_text(table[0], word))


def kind_of(table, word):
    """The kind of the word; NoText."""
    room = room_of(table, word)
    return table[2][room]


def room_from(table, room, word):
    """The room to which the word's signs lead from a room."""
    return rooms_along(table, room, word)[-1]


def rooms_along(table, room, word):
    """The room itself, and then the one to which each of the word's signs leads, one by one."""
    tongue, goes, kinds = table
    rooms = [room]
    for sign in word:
        rooms.append(goes[rooms[-1]][tongue.index(sign)])
    return rooms


def words_to(table, start, passed):
    """For each room the least word of one sign or more that leads to it from the start; a dict.

    A word leads only through rooms for which passed has True, and to such a one.
    """
    tongue, goes, kinds = table
    words = {}
    waiting = [(start, "")]
    looked = 0
    while looked < len(waiting):
        room, word = waiting[looked]
        for sign, to in zip(tongue, goes[room]):
            if passed[to] and to not in words:
                words[to] = word + sign
                waiting.append((to, word + sign))
        looked += 1
    return words
