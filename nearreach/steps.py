"""Steps that need the reach, and rounds that show that no number is enough."""

from nearreach.hopes import hope_words
from nearreach.least import ways_to
from nearreach.reaches import heights, reach
from nearreach.tables import room_from, rooms_along, words_to
from nearreach.tongues import is_text


def needing(table):
    """A step (u, z) whose z has as many signs as the reach tells; None where that is 0 or None."""
    number = reach(table)
    if number is None or number == 0:
        return None
    highs = heights(table)
    starts = [room for room, kind in enumerate(table[2]) if kind != -1 and highs[room] == number]
    return (ways_to(table)[starts[0]], way_down(table, highs, starts[0]))


def way_down(table, highs, start):
    """A word of as many signs as the start is high to a room with a kind, none such between."""
    tongue, goes, kinds = table
    word = ""
    room = start
    for left in reversed(range(highs[start])):
        fitting = [(sign, to) for sign, to in zip(tongue, goes[room]) if is_next_down(kinds[to], highs[to], left)]
        sign, room = fitting[0]
        word += sign
    return word


def is_next_down(kind, high, left):
    """True just where a room of this kind and height stands so many signs ahead of the last one of a step."""
    if left == 0:
        return kind != -1
    return kind == -1 and high == left


def is_step(table, u, z):
    """True just where the words u and z make a step."""
    kinds = table[2]
    start = room_from(table, 0, u)
    if z == "" or kinds[start] == -1:
        return False
    *between, last = rooms_along(table, start, z)[1:]
    return kinds[last] != -1 and all([kinds[room] == -1 for room in between])


def needing_holds(table, number, u, z):
    """True just where u and z, whatever they are, make a step, and z has so many signs."""
    if not is_text(table[0], u) or not is_text(table[0], z):
        return False
    return len(z) == number and is_step(table, u, z)


def rounds(table):
    """A round (u, y, c, x), or None where the reach is a number."""
    bare = [kind == -1 for kind in table[2]]
    loops = loops_of(table)
    for start, way in enumerate(ways_to(table)):
        for room, word in words_to(table, start, bare).items():
            if not bare[start] and room in loops:
                c, x = loops[room]
                return (way, word, c, x)
    return None


def loops_of(table):
    """For rooms without a kind a word back to the room and one to a room with a kind, none such between; a dict."""
    bare = [kind == -1 for kind in table[2]]
    loops = {}
    for room, word in enumerate(hope_words(table)):
        back = words_to(table, room, bare).get(room)
        if word is not None and back is not None:
            loops[room] = (back, word)
    return loops


def rounds_hold(table, u, y, c, x):
    """True just where the four things, whatever they are, are a round."""
    for word in (u, y, c, x):
        if not is_text(table[0], word) or word == "":
            return False
    room = room_from(table, 0, u + y)
    return room_from(table, room, c) == room and is_step(table, u, y + c + x)
