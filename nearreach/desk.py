"""The desk: a book that is changed and asked by lines."""

from nearreach.books import with_rule, without_rule
from nearreach.booktexts import book_text
from nearreach.changes import altered, named_pieces
from nearreach.cuttexts import cut_text
from nearreach.desklines import read_line
from nearreach.errors import (
    Closed, NoBook, NoLine, NoPlace, NoQuote, NoShape, NoText, Stopped, TooHeavy, TooMany, Unlike,
)
from nearreach.lates import late_pair
from nearreach.making import table_of
from nearreach.quotes import quoted
from nearreach.reaches import reach
from nearreach.streams import Stream


class Desk:
    """A desk.

    book is its book, table that book's table and reader a reader of it, all None where there is no book; aside is the
    book kept aside, or None; past has what the book was ahead of each deed that isn't undone, the last one last.
    """

    def __init__(self):
        self.aside = None
        self.past = []
        self.put(None)

    def put(self, book):
        """Has this book, or None, from now on, with a new reader; NoBook, TooHeavy, TooMany."""
        # What may be refused comes first: then nothing is changed.
        table = None if book is None else table_of(book)
        self.book = book
        self.table = table
        self.reader = None if book is None else Stream(table)

    def change(self, book):
        """Does a deed of which this book comes; NoBook, TooHeavy, TooMany."""
        before = self.book
        self.put(book)
        self.past.append(before)
        return "ok"

    def do(self, line):
        """The answer to a line."""
        try:
            return answer(self, line)
        except (NoLine, NoQuote, NoShape):
            return "refused NoLine"
        except NoBook:
            return "refused NoBook"
        except NoPlace:
            return "refused NoPlace"
        except TooHeavy:
            return "refused TooHeavy"
        except TooMany:
            return "refused TooMany"
        except NoText:
            return "refused NoText"
        except Unlike:
            return "refused Unlike"
        except Closed:
            return "refused Closed"
        except Stopped:
            return "refused Stopped"


def answer(desk, line):
    """The answer to a line; what is refused is refused as the functions tell."""
    word, thing = read_line(line)
    if desk.book is None and word not in ("tongue", "undo"):
        raise NoBook("no book on the desk")
    if thing is None:
        telling = TELLINGS[word]
        return telling(desk)
    doing = DOINGS[word]
    return doing(desk, thing)


def set_tongue(desk, text):
    """A book of the tongue without rules; NoBook where the text is no tongue."""
    return desk.change((text, ()))


def put_rule(desk, thing):
    """(number, rule): the rule is put ahead of the one of that number; NoPlace, NoBook, TooHeavy, TooMany."""
    at, rule = thing
    return desk.change(with_rule(desk.book, at, rule))


def drop_rule(desk, name):
    """The rule of that name is taken out; NoPlace, TooMany."""
    names = [other for other, shape in desk.book[1]]
    if name not in names:
        raise NoPlace("no rule of that name")
    return desk.change(without_rule(desk.book, names.index(name)))


def undo_deed(desk):
    """The book is what it was ahead of the last deed; NoPlace."""
    if not desk.past:
        raise NoPlace("nothing to undo")
    desk.put(desk.past.pop())
    return "ok"


def keep_book(desk):
    """The book is kept aside."""
    desk.aside = desk.book
    return "ok"


def show_book(desk):
    """The book as written."""
    return book_text(desk.book)


def rooms_text(desk):
    """The count of rooms of the book's table."""
    return str(len(desk.table[1]))


def reach_text(desk):
    """The reach of the book's table."""
    number = reach(desk.table)
    return "none" if number is None else str(number)


def late_text(desk, number):
    """Whether the number is enough, or else a late pair."""
    pair = late_pair(desk.table, number)
    if pair is None:
        return "enough"
    one, other = pair
    return f"late {quoted(one)} {quoted(other)}"


def cut_lines(desk, text):
    """The text's cut as written; NoText."""
    return cut_text(desk.book, text)


def alter_text(desk):
    """What alters from the book kept aside to the book; NoBook, Unlike."""
    if desk.aside is None:
        raise NoBook("no book kept aside")
    told = altered(desk.aside, desk.book)
    return "same" if told is None else f"text {quoted(told[0])}"


def piece_lines(desk, pieces):
    """The pieces that a reader told, in lines."""
    return "".join([f"{name} {start} {end}\n" for name, start, end in named_pieces(desk.book, pieces)])


def feed_reader(desk, text):
    """Feeds the reader; Closed, Stopped, NoText."""
    return piece_lines(desk, desk.reader.feed(text))


def close_reader(desk):
    """Closes the reader; Closed, Stopped."""
    return piece_lines(desk, desk.reader.close())


def kept_text(desk):
    """What the reader keeps."""
    return quoted(desk.reader.kept())


def state_text(desk):
    """The reader's state, and where it is stopped."""
    word = desk.reader.state()
    return f"{word} {desk.reader.fault()}" if word == "stopped" else word


TELLINGS = {
    "undo": undo_deed, "keep": keep_book, "show": show_book, "rooms": rooms_text, "reach": reach_text,
    "alter": alter_text, "close": close_reader, "kept": kept_text, "state": state_text,
}
DOINGS = {
    "tongue": set_tongue, "rule": put_rule, "drop": drop_rule, "late": late_text, "cut": cut_lines,
    "feed": feed_reader,
}
