"""Least tables, ways to rooms, and words that part rooms."""

from nearreach.crowds import merged_table
from nearreach.folds import folding
from nearreach.plain import is_number, is_row
from nearreach.tables import room_from, words_to
from nearreach.tongues import is_text


def least_of(table):
    """The table with the same kind for each word and as few rooms as can be."""
    tongue, goes, kinds = table
    return merged_table(tongue, goes, kinds, folding(table))


def ways_to(table):
    """For each room the least word that leads to it."""
    rooms = len(table[1])
    words = words_to(table, 0, [True] * rooms)
    return tuple([""] + [words[room] for room in range(1, rooms)])


def two_rooms(table):
    """The pairs of rooms (one, other), one below other, in order."""
    rooms = len(table[1])
    return [(one, other) for one in range(rooms) for other in range(one + 1, rooms)]


def parting_words(table):
    """For each two rooms that a word parts the least such word; a dict."""
    kinds = table[2]
    words = {}
    # Words of one length are all found ahead of longer ones, so the first sign that fits makes the least word.
    more = {(one, other): "" for one, other in two_rooms(table) if kinds[one] != kinds[other]}
    while more:
        words.update(more)
        more = {}
        for pair in [pair for pair in two_rooms(table) if pair not in words]:
            word = longer_word(table, words, pair)
            if word is not None:
                more[pair] = word
    return words


def longer_word(table, words, pair):
    """The first sign that leads from two rooms to a pair with a word, that word behind it; or None."""
    tongue, goes, kinds = table
    one, other = pair
    for sign, near, far in zip(tongue, goes[one], goes[other]):
        led = (min(near, far), max(near, far))
        if led in words:
            return sign + words[led]
    return None


def parting(table, one, other):
    """The least word that leads from two rooms to rooms of unlike kinds, or None."""
    return parting_words(table).get((min(one, other), max(one, other)))


def partings(table):
    """For each two rooms (one, other, parting), in order."""
    words = parting_words(table)
    return tuple([(one, other, words.get((one, other))) for one, other in two_rooms(table)])


def least_holds(table, ways, rows):
    """True just where ways and rows, whatever they are, show the table to be least."""
    rooms = len(table[1])
    if not is_row(ways, rooms, rooms) or not all([is_text(table[0], word) for word in ways]):
        return False
    if [room_from(table, 0, word) for word in ways] != list(range(rooms)):
        return False
    pairs = two_rooms(table)
    if not is_row(rows, len(pairs), len(pairs)):
        return False
    return all([parts_two(table, pair, row) for pair, row in zip(pairs, rows)])


def parts_two(table, pair, row):
    """True just where row, whatever it is, is (one, other, word), and the word parts these two rooms."""
    tongue, goes, kinds = table
    if not is_row(row, 3, 3) or not is_number(row[0]) or not is_number(row[1]):
        return False
    if row[:2] != pair or not is_text(tongue, row[2]):
        return False
    return kinds[room_from(table, pair[0], row[2])] != kinds[room_from(table, pair[1], row[2])]
