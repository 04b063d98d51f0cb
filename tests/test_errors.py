import unittest

from nearreach import errors
from nearreach.books import looked_book, without_rule
from nearreach.booktexts import read_book
from nearreach.compares import parted
from nearreach.cuts import cut
from nearreach.machines import machine_of
from nearreach.making import table_of
from nearreach.modestreams import ModeStream
from nearreach.quotes import unquoted
from nearreach.shapetexts import read_shape
from nearreach.streams import Stream
from nearreach.tables import looked_table
from nearreach.tongues import word_at
from tests.helpers import THIRTY_THREE

NAMES = [
    "NoWord", "NoShape", "NoBook", "TooHeavy", "NoPlace", "NoTable", "NoText", "TooMany",
    "Closed", "Stopped", "Unlike", "NoModes", "NoQuote", "NoLine",
]


class ErrorsTest(unittest.TestCase):
    def test_all_refusals_stand_straight_under_the_one(self):
        self.assertEqual(errors.ReachError.__bases__, (ValueError,))
        for name in NAMES:
            self.assertEqual(getattr(errors, name).__bases__, (errors.ReachError,), name)

    def test_there_are_fourteen_unlike_ones(self):
        self.assertEqual(len({getattr(errors, name) for name in NAMES}), 14)
        found = [x for x in vars(errors).values() if isinstance(x, type) and issubclass(x, errors.ReachError)]
        self.assertEqual(len(found), 15)

    def test_no_line_has_its_line(self):
        for line in (1, 7, 10 ** 20):
            with self.assertRaises(errors.ReachError) as caught:
                raise errors.NoLine(line)
            self.assertEqual(caught.exception.line, line)

    def test_each_is_of_its_own_class_and_of_these_two(self):
        for name in NAMES:
            kind = getattr(errors, name)
            self.assertEqual(kind.__mro__, (kind, errors.ReachError, ValueError, Exception, BaseException, object))

    def test_each_as_it_is_refused(self):
        table = ("a", ((0,),), (-1,))
        closed, stopped = Stream(table), ModeStream(("a", ((((0,),), (-1,), ()),)), 0)
        closed.close()
        stopped.feed("a")
        heavy = ("a", (("x", ("times", ("times", ("one", "a"), 4, 4), 4, 4)),))
        for name, call, thing in [
            ("NoWord", lambda thing: word_at("a", thing), -1), ("NoShape", read_shape, "{}"),
            ("NoBook", looked_book, 5),
            ("TooHeavy", looked_book, heavy), ("NoPlace", lambda thing: without_rule(("a", ()), thing), 0),
            ("NoTable", looked_table, ()), ("NoText", lambda thing: cut(table, thing), "b"),
            ("TooMany", table_of, THIRTY_THREE), ("Closed", closed.feed, "a"), ("Stopped", stopped.feed, "a"),
            ("Unlike", lambda thing: parted(table, thing), ("b", ((0,),), (-1,))), ("NoModes", machine_of, ("a", ())),
            ("NoQuote", unquoted, "<"), ("NoLine", read_book, ""),
        ]:
            for kind in (getattr(errors, name), errors.ReachError, ValueError):
                with self.assertRaises(kind) as caught:
                    call(thing)
                self.assertIs(type(caught.exception), getattr(errors, name))
