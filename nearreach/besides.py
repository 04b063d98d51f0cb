"""Neighbours: pieces of two kinds side by side."""

from nearreach.plain import are_pairs, least_words


def beside(table, one, other):
    """The least text whose cut is a piece of the one kind and then one of the other, and all of it; or None."""
    words = least_words(table[0], (0, None), lambda pair: led_pairs(table, one, pair))
    for (room, rest), word in words.items():
        if rest is not None and table[2][rest] == other:
            return word
    return None


def led_pairs(table, kind, pair):
    """The pairs to which the tongue's signs lead from a pair, in their order; a list.

    A pair is the room behind a text, and the room behind what stands behind its first piece, which is None where there
    is no first piece of the kind.
    """
    tongue, goes, kinds = table
    room, rest = pair
    rests = [None] * len(tongue) if rest is None else goes[rest]
    return [(to, rest_room(kinds[to], kind, later)) for to, later in zip(goes[room], rests)]


def rest_room(whole, kind, later):
    """The second room of a pair where the whole text has this kind, later where it has none."""
    if whole == -1:
        return later
    # All of the text is its first piece now, and nothing stands behind it.
    return 0 if whole == kind else None


def followers(table, kind):
    """The rising pairs of rooms behind a piece of the kind that no longer piece follows."""
    found = {}
    waiting = piece_ends(table, kind)
    looked = 0
    while looked < len(waiting):
        led = pairs_without_kind(table, waiting[looked])
        for pair in led:
            if pair not in found:
                found[pair] = True
                waiting.append(pair)
        looked += 1
    return tuple(sorted(found))


def piece_ends(table, kind):
    """The pairs (room of the kind, 0); a list."""
    return [(room, 0) for room, other in enumerate(table[2]) if other == kind]


def pairs_without_kind(table, pair):
    """The pairs to which signs lead from a pair, those whose first room has a kind left out; a list."""
    tongue, goes, kinds = table
    one, other = pair
    return [(near, far) for near, far in zip(goes[one], goes[other]) if kinds[near] == -1]


def followers_hold(table, kind, rows):
    """True just where rows, whatever it is, holds as the followers of a kind."""
    rooms = len(table[1])
    if not are_pairs(rows, rooms, rooms):
        return False
    held = {pair: True for pair in rows}
    starts = piece_ends(table, kind) + list(held)
    return all([pair in held for start in starts for pair in pairs_without_kind(table, start)])
