"""Two tables of one tongue: the word that parts them, or the pairs that show that they cut alike."""

from nearreach.errors import Unlike
from nearreach.plain import are_pairs, least_words


def look_unlike(one, other):
    """Unlike where the tongues of two tables, or of two books, aren't the same text."""
    if one[0] != other[0]:
        raise Unlike("the tongues aren't the same text")


def pairs_behind(one, other, pair):
    """The pairs of rooms to which signs lead from a pair of two tables, one for each sign of the tongue."""
    near, far = pair
    return list(zip(one[1][near], other[1][far]))


def pair_words(one, other):
    """For each pair to which words lead in both tables the least such word; a dict in the order of these words."""
    return least_words(one[0], (0, 0), lambda pair: pairs_behind(one, other, pair))


def parted_by(one, other, labels, others):
    """The least word that leads to rooms with unlike labels in two tables, or None."""
    for (near, far), word in pair_words(one, other).items():
        if labels[near] != others[far]:
            return word
    return None


def parted(one, other):
    """The least word with unlike kinds in two tables, or None; Unlike."""
    look_unlike(one, other)
    return parted_by(one, other, one[2], other[2])


def pairs(one, other):
    """The rising pairs of rooms to which words lead in two tables that cut alike, or None; Unlike."""
    if parted(one, other) is not None:
        return None
    return tuple(sorted(pair_words(one, other)))


def pairs_hold(one, other, rows):
    """True just where rows, whatever it is, shows that two tables cut alike; Unlike."""
    look_unlike(one, other)
    if not are_pairs(rows, len(one[1]), len(other[1])):
        return False
    held = {pair: True for pair in rows}
    return (0, 0) in held and all([pair_holds(one, other, held, pair) for pair in held])


def pair_holds(one, other, held, pair):
    """True just where a pair's rooms have the same kind, and each sign leads from it to a held pair."""
    near, far = pair
    return one[2][near] == other[2][far] and all([to in held for to in pairs_behind(one, other, pair)])


def bare(table):
    """The table with 0 in the place of each kind."""
    tongue, goes, kinds = table
    return (tongue, goes, tuple([min(kind, 0) for kind in kinds]))
