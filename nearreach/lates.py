"""Late pairs: two texts that show that a number is not enough."""

from nearreach.cuts import piece_at
from nearreach.steps import needing, rounds
from nearreach.tongues import is_text


def late_pair(table, number):
    """Two texts that show that the number is not enough, or None where it is."""
    step = longer_step(table, number)
    if step is None:
        return None
    u, z = step
    return (u + z[:number], u + z)


def longer_step(table, number):
    """A step whose z has more signs than the number, or None."""
    told = rounds(table)
    if told is None:
        step = needing(table)
        return step if step is not None and len(step[1]) > number else None
    u, z, c, x = told
    while len(z + x) <= number:
        z += c
    return (u, z + x)


def late_holds(table, number, one, other):
    """True just where one and other, whatever they are, are a late pair for the number."""
    if not is_text(table[0], one) or not is_text(table[0], other):
        return False
    found = piece_at(table, one, 0)
    if found is None:
        return False
    kind, end = found
    return one[:end + number] == other[:end + number] and piece_at(table, other, 0) != found
