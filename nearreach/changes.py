"""Cuts by names, what alters between two books, and what their rules do."""

from nearreach.books import book_spread, crowd_takers
from nearreach.compares import look_unlike, parted_by
from nearreach.crowds import crowds_of
from nearreach.cuts import cut
from nearreach.making import table_of
from nearreach.tables import words_to


def named_cut(book, text):
    """The cut by names: (list of (name, start, end), place); NoBook, TooHeavy, TooMany, NoText."""
    pieces, place = cut(table_of(book), text)
    return (named_pieces(book, pieces), place)


def named_pieces(book, pieces):
    """The pieces with the names of their rules in the place of their kinds; a list."""
    rules = book[1]
    return [(rules[kind][0], start, end) for kind, start, end in pieces]


def room_names(book, table):
    """For each room of a book's table the name of its kind's rule, or None."""
    rules = book[1]
    return [None if kind == -1 else rules[kind][0] for kind in table[2]]


def altered(book, other):
    """The least text whose cuts by names are unlike in two books, with both of them, or None; Unlike, TooMany."""
    look_unlike(book, other)
    table = table_of(book)
    later = table_of(other)
    word = parted_by(table, later, room_names(book, table), room_names(other, later))
    if word is None:
        return None
    return (word, named_cut(book, word), named_cut(other, word))


def taken_words(book):
    """(word, rising numbers of the rules that take it) for the least word of each crowd, the least first; a list.

    Words that lead to the same crowd are taken by the same rules. The word without signs isn't among these.
    """
    crowds, goes, kinds = crowds_of(book)
    spread = book_spread(book)
    words = words_to((book[0], goes, kinds), 0, [True] * len(goes))
    return [(word, crowd_takers(spread, crowds[number])) for number, word in words.items()]


def first_words(book):
    """For each rule the least word of that kind, or None."""
    words = {}
    for word, takers in taken_words(book):
        if takers and takers[0] not in words:
            words[takers[0]] = word
    return tuple([words.get(number) for number in range(len(book[1]))])


def idle(book):
    """The rising numbers of the rules that are no word's kind."""
    return tuple([number for number, word in enumerate(first_words(book)) if word is None])


def shared(book, one, other):
    """The least word of one sign or more that both rules' shapes take, or None."""
    for word, takers in taken_words(book):
        if one in takers and other in takers:
            return word
    return None


def exchange_free(book, at):
    """True just where exchanging the rule numbered at and the one behind it alters nothing but their order."""
    return not any([at + 1 in takers and takers[0] == at for word, takers in taken_words(book)])
