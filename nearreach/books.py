"""Books of rules, the kinds of words in them, and changed books."""

from nearreach.endings import takes
from nearreach.errors import NoBook, NoPlace, TooHeavy
from nearreach.plain import is_number, is_row, rising
from nearreach.shapes import HEAVIEST, is_shape, parts_of, weight
from nearreach.spreads import patch_of_one, patch_rows, patches_of
from nearreach.tongues import is_text, is_tongue


def looked_book(thing):
    """The book that was handed in, whatever it is; NoBook, TooHeavy."""
    if not is_book(thing):
        raise NoBook("no book")
    tongue, rules = thing
    if sum([weight(shape) for name, shape in rules]) > HEAVIEST:
        raise TooHeavy("the book weighs too much")
    return thing


def is_book(thing):
    """True just where thing, whatever it is, is a book, however heavy."""
    if not is_row(thing, 2, 2) or not is_tongue(thing[0]) or not is_row(thing[1], 0, 6):
        return False
    tongue, rules = thing
    if not all([is_rule(tongue, rule) for rule in rules]):
        return False
    return len({name for name, shape in rules}) == len(rules)


def is_rule(tongue, thing):
    """True just where thing, whatever it is, is a rule with signs of the tongue."""
    if not is_row(thing, 2, 2) or not is_name(thing[0]) or not is_shape(thing[1]):
        return False
    return all([is_text(tongue, part[1]) for part in parts_of(thing[1]) if part[0] == "one"])


def is_name(thing):
    """True just where thing, whatever it is, can be a rule's name."""
    if not isinstance(thing, str) or not 1 <= len(thing) <= 8:
        return False
    return all(["a" <= letter <= "z" for letter in thing])


def kind_by_trying(book, word):
    """The kind of the word: the number of the first rule whose shape takes it, else -1."""
    tongue, rules = book
    if word == "":
        return -1
    for number, (name, shape) in enumerate(rules):
        if takes(shape, word):
            return number
    return -1


def book_spread(book):
    """The spread of a book: (signs, owners, nexts, lasts)."""
    tongue, rules = book
    patches = patches_of([shape for name, shape in rules], 1)
    owners = [-1]
    for number, patch in enumerate(patches):
        owners.extend([number] * len(patch.signs))
    signs, nexts, lasts = patch_rows(patch_of_one(patches))
    return (signs, tuple(owners), nexts, lasts)


def crowd_takers(spread, crowd):
    """The rising numbers of the rules that take a crowd's words, in a book's spread; none for the crowd (0,)."""
    signs, owners, nexts, lasts = spread
    return rising([owners[place] for place in crowd if place != 0 and place in lasts])


def crowd_kind(spread, crowd):
    """The kind of a crowd in a book's spread."""
    return min(crowd_takers(spread, crowd), default=-1)


def with_rule(book, at, rule):
    """The book with the rule, whatever it is, ahead of the rule numbered at; NoPlace, NoBook, TooHeavy."""
    rules = rules_with_place(book, at, 0)
    return looked_book((book[0], rules[:at] + (rule,) + rules[at:]))


def without_rule(book, at):
    """The book without the rule numbered at; NoPlace, NoBook, TooHeavy."""
    rules = rules_with_place(book, at, 1)
    return looked_book((book[0], rules[:at] + rules[at + 1:]))


def exchanged(book, at):
    """The book with the rule numbered at behind the next one; NoPlace, NoBook, TooHeavy."""
    rules = rules_with_place(book, at, 2)
    return looked_book((book[0], rules[:at] + (rules[at + 1], rules[at]) + rules[at + 2:]))


def rules_with_place(book, at, wanted):
    """The book's rules, where at, whatever it is, is a number with so many rules wanted from it on; NoPlace, NoBook."""
    if not is_number(at) or at < 0:
        raise NoPlace("no number from 0 on")
    # How many places there are can be told only of what has rules.
    if not is_row(book, 2, 2) or not isinstance(book[1], tuple):
        raise NoBook("no book")
    if at + wanted > len(book[1]):
        raise NoPlace("no such place")
    return book[1]
