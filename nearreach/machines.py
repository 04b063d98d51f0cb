"""Moded books and machines: books that pieces open and shut."""

from nearreach.books import is_book, looked_book
from nearreach.errors import NoModes
from nearreach.making import table_of
from nearreach.plain import is_number_from, is_row
from nearreach.reaches import reach
from nearreach.tables import is_table

MOST_MODES = 4
MOST_DEEDS = 6


def is_deed(thing, modes):
    """True just where thing, whatever it is, is a deed where there are so many modes."""
    if not is_row(thing, 1, 2) or not isinstance(thing[0], str):
        return False
    if len(thing) == 1:
        return thing[0] in ("stay", "shut")
    return thing[0] in ("open", "turn") and is_number_from(thing[1], 0, modes - 1)


def looked_machine(thing):
    """The machine that was handed in, whatever it is; NoModes."""
    if not is_row(thing, 2, 2) or not is_row(thing[1], 1, MOST_MODES):
        raise NoModes("no machine")
    tongue, modes = thing
    if not all([is_mode(tongue, mode, len(modes)) for mode in modes]):
        raise NoModes("no machine")
    return thing


def is_mode(tongue, thing, modes):
    """True just where thing, whatever it is, is a mode of a machine of the tongue, whatever that is."""
    if not is_row(thing, 3, 3):
        return False
    goes, kinds, deeds = thing
    if not is_table((tongue, goes, kinds)) or not is_row(deeds, 0, MOST_DEEDS):
        return False
    return len(deeds) > max(kinds) and all([is_deed(deed, modes) for deed in deeds])


def machine_of(moded):
    """The machine of a moded book, whatever it is; NoModes, TooHeavy, TooMany."""
    if not is_moded(moded):
        raise NoModes("no moded book")
    tongue, modes = moded
    books = [bare_book(tongue, mode) for mode in modes]
    # All are weighed first: too heavy a mode goes ahead of one with too many rooms, wherever it stands.
    for book in books:
        looked_book(book)
    tables = [table_of(book) for book in books]
    return (tongue, tuple([moded_table(table, mode) for table, mode in zip(tables, modes)]))


def is_moded(thing):
    """True just where thing, whatever it is, is a moded book, however heavy."""
    if not is_row(thing, 2, 2) or not is_row(thing[1], 1, MOST_MODES):
        return False
    tongue, modes = thing
    if not all([are_moded_rules(mode, len(modes)) for mode in modes]):
        return False
    return all([is_book(bare_book(tongue, mode)) for mode in modes])


def are_moded_rules(thing, modes):
    """True just where thing, whatever it is, is a tuple of rules, as far as can be told by their deeds."""
    if not isinstance(thing, tuple):
        return False
    return all([is_row(rule, 3, 3) and is_deed(rule[2], modes) for rule in thing])


def bare_book(tongue, mode):
    """The book of a mode: its rules without their deeds."""
    return (tongue, tuple([(name, shape) for name, shape, deed in mode]))


def moded_table(table, mode):
    """The mode of a machine that comes of a table and of a moded book's mode."""
    tongue, goes, kinds = table
    return (goes, kinds, tuple([deed for name, shape, deed in mode]))


def mode_tables(machine):
    """The tables of a machine's modes; a list."""
    tongue, modes = machine
    return [(tongue, goes, kinds) for goes, kinds, deeds in modes]


def mode_reaches(machine):
    """The reaches of a machine's modes, None where no number is enough."""
    return tuple([reach(table) for table in mode_tables(machine)])


def moded_reach(machine):
    """The greatest reach of a machine's modes, None where one is None."""
    reaches = mode_reaches(machine)
    return None if None in reaches else max(reaches)


def deed_of(machine, mode, kind):
    """The deed of a kind in a mode of a machine."""
    goes, kinds, deeds = machine[1][mode]
    return deeds[kind]


def pile_behind(pile, deed):
    """The pile of modes behind a deed, or None where that would shut the last one."""
    if deed[0] == "open":
        return pile + (deed[1],)
    if deed[0] == "turn":
        return pile[:-1] + (deed[1],)
    if deed[0] == "stay":
        return pile
    return pile[:-1] if len(pile) > 1 else None
