"""Hope: which rooms lead on to a room with a kind."""

from nearreach.plain import is_row
from nearreach.tables import room_from
from nearreach.tongues import is_text


def hope_words(table):
    """For each room the least word of one sign or more that leads from it to a room with a kind, or None."""
    return tuple([hope_word(table, room) for room in range(len(table[1]))])


def hope_word(table, start):
    """The hope word of one room, or None."""
    tongue, goes, kinds = table
    # Rooms are looked at in the order of the least words to them, so the first word found is the least.
    found = [(start, "")]
    seen = {start: True}
    looked = 0
    while looked < len(found):
        room, word = found[looked]
        for sign, to in zip(tongue, goes[room]):
            if kinds[to] != -1:
                return word + sign
            if to not in seen:
                seen[to] = True
                found.append((to, word + sign))
        looked += 1
    return None


def hopes(table):
    """For each room True where it has hope, else False."""
    return tuple([word is not None for word in hope_words(table)])


def hopes_hold(table, words):
    """True just where words, whatever it is, holds as the hope words of the table."""
    rooms = len(table[1])
    return is_row(words, rooms, rooms) and all([hope_holds(table, words, room) for room in range(rooms)])


def hope_holds(table, words, room):
    """True just where what words tells for one room holds."""
    tongue, goes, kinds = table
    word = words[room]
    if word is None:
        return all([kinds[to] == -1 and words[to] is None for to in goes[room]])
    if not is_text(tongue, word) or word == "":
        return False
    return kinds[room_from(table, room, word)] != -1
