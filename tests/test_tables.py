import unittest

from nearreach.errors import NoTable, NoText
from nearreach.tables import is_table, kind_of, looked_table, room_of
from tests.helpers import changed, is_kept, odd_things, plain_is_table, some_tables, walk, words_upto

ONE = ("a", ((0,),), (-1,))
TWO = ("ab", ((1, 0), (0, 1)), (-1, 5))
THREE = ("ba", ((1, 2), (2, 2), (0, 1)), (-1, 0, 3))


def long_table(rooms):
    """A table in which each room leads to the next one."""
    return ("ab", tuple((min(room + 1, rooms - 1), 0) for room in range(rooms)), (-1,) + (2,) * (rooms - 1))


SPOILT = [
    long_table(33), long_table(100), ("a", (), ()), ("a", (), (-1,)),
    # Rows too long, too short, or not there.
    ("a", ((0, 0),), (-1,)), ("ab", ((0,),), (-1,)), ("a", ((),), (-1,)), ("ab", ((1, 0), (0,)), (-1, 5)),
    ("ab", ((1, 0), (0, 1, 1)), (-1, 5)), ("a", (0,), (-1,)),
    # Rooms that aren't there.
    ("a", ((1,),), (-1,)), ("a", ((-1,),), (-1,)), ("ab", ((1, 0), (0, 2)), (-1, 5)), ("a", ((10 ** 999,),), (-1,)),
    ("a", ((-1,), (0,)), (-1, 0)), ("ab", ((1, 0), (0, -1)), (-1, 5)), ("ab", ((1, 0), (0, -2)), (-1, 5)),
    # Kinds.
    ("ab", ((1, 0), (0, 1)), (-1, 6)), ("ab", ((1, 0), (0, 1)), (-1, -2)), ("a", ((0,),), (0,)), ("a", ((0,),), (5,)),
    ("ab", ((1, 0), (0, 1)), (-1,)), ("ab", ((1, 0), (0, 1)), (-1, 5, 5)), ("a", ((0,),), ()), ("a", ((0,),), (-2,)),
    # True and False, None, texts.
    ("ab", ((True, 0), (0, 1)), (-1, 5)), ("ab", ((1, False), (0, 1)), (-1, 5)), ("ab", ((1, 0), (0, 1)), (-1, True)),
    ("ab", ((1, 0), (0, 1)), (-1, False)), ("a", ((None,),), (-1,)), ("a", (("0",),), (-1,)), ("a", ((0,),), ("-1",)),
    # Lists.
    ["a", ((0,),), (-1,)], ("a", [(0,)], (-1,)), ("a", ([0],), (-1,)), ("a", ((0,),), [-1]), (["a"], ((0,),), (-1,)),
    # Rooms that no word leads to.
    ("a", ((0,), (0,)), (-1, 0)), ("a", ((1,), (1,), (0,)), (-1, 0, -1)), ("ab", ((0, 0), (0, 1)), (-1, 5)),
    ("a", ((0,), (2,), (1,)), (-1, 0, 0)),
    # Tongues.
    ("", ((),), (-1,)), ("aa", ((0, 0),), (-1,)), ("abcdefg", ((0,) * 7,), (-1,)), (None, ((0,),), (-1,)),
    (("a",), ((0,),), (-1,)), ("\t", ((0,),), (-1,)), ("%", ((0,),), (-1,)),
    # Things too many or too few.
    ("a", ((0,),)), ("a", ((0,),), (-1,), ()), (),
]


class IsTableTest(unittest.TestCase):
    def test_tables(self):
        for table in [
            ONE, TWO, THREE, long_table(2), long_table(31), long_table(32), ("abcdef", ((0,) * 6,), (-1,)),
            ("\n", ((1,), (0,)), (-1, -1)), ("a", ((1,), (1,)), (-1, 0)),
        ]:
            self.assertIs(is_table(table), True, table)
            self.assertIs(looked_table(table), table)

    def test_some_tables(self):
        for table in some_tables(50):
            self.assertIs(is_table(table), True)

    def test_no_tables(self):
        for thing in SPOILT + odd_things():
            self.assertIs(is_table(thing), False, repr(thing)[:200])
            with self.assertRaises(NoTable):
                looked_table(thing)

    def test_odd_things_at_each_place(self):
        for thing in odd_things():
            for spoilt in [
                (thing, ((0,),), (-1,)), ("a", thing, (-1,)), ("a", (thing,), (-1,)), ("a", ((0,),), thing),
                ("a", ((thing,),), (-1,)), ("a", ((0,),), (thing,)),
            ]:
                self.assertIs(is_table(spoilt), repr(spoilt) == repr(ONE), repr(spoilt)[:200])

    def test_every_change_at_one_place(self):
        good = 0
        for table in (TWO, ("ab", ((1, 2), (2, 2), (0, 1)), (-1, 0, 3))):
            for thing in changed(table):
                # A change of the tongue alone is looked at above.
                if type(thing) is tuple and len(thing) == 3 and thing[0] != "ab":
                    continue
                self.assertIs(is_table(thing), plain_is_table(thing), repr(thing)[:200])
                good += is_table(thing)
        self.assertGreater(good, 5)

    def test_nothing_is_changed(self):
        is_kept(self, is_table, THREE)
        is_kept(self, is_table, ["a", [[0]], [-1]])
        is_kept(self, looked_table, THREE)
        is_kept(self, room_of, THREE, "abba")
        is_kept(self, kind_of, THREE, "abba")


class RoomTest(unittest.TestCase):
    def test_rooms_and_kinds(self):
        for word, room, kind in [("", 0, -1), ("b", 1, 0), ("a", 2, 3), ("ab", 0, -1), ("aa", 1, 0), ("bb", 2, 3),
                                 ("aba", 2, 3), ("abb", 1, 0)]:
            self.assertEqual(room_of(THREE, word), room)
            self.assertEqual(kind_of(THREE, word), kind)

    def test_some_words(self):
        for table in some_tables(40, seed=2):
            for word in words_upto(table[0], 4):
                self.assertEqual(room_of(table, word), walk(table, 0, word))
                self.assertEqual(kind_of(table, word), table[2][walk(table, 0, word)])

    def test_the_word_without_signs(self):
        for table in [ONE, TWO, THREE, long_table(32)]:
            self.assertEqual((room_of(table, ""), kind_of(table, "")), (0, -1))

    def test_long_words(self):
        self.assertEqual(room_of(long_table(32), "a" * 240), 31)
        self.assertEqual(kind_of(long_table(32), "a" * 31), 2)
        self.assertEqual(room_of(long_table(32), "a" * 239 + "b"), 0)

    def test_no_text(self):
        odd = [thing for thing in odd_things() if repr(thing) != "''"]
        for word in odd + ["c", "abc", "A", "a\n", ("a",), ["a"], b"a"]:
            with self.assertRaises(NoText):
                room_of(THREE, word)
            with self.assertRaises(NoText):
                kind_of(THREE, word)
