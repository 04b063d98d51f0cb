"""The table of a book."""

from nearreach.books import looked_book
from nearreach.crowds import crowds_of, merged, merged_table
from nearreach.errors import TooMany
from nearreach.tables import MOST_ROOMS


def table_of(book):
    """The table of a book, whatever it is; NoBook, TooHeavy, TooMany."""
    tongue, rules = looked_book(book)
    crowds, goes, kinds = crowds_of(book)
    return merged_table(tongue, goes, kinds, looked_rooms(merged(goes, kinds)))


def looked_rooms(rooms):
    """The row of rooms that was handed in; TooMany."""
    if max(rooms) >= MOST_ROOMS:
        raise TooMany("the table would have too many rooms")
    return rooms
