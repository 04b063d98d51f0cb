import random
import unittest

from nearreach.least import least_holds, least_of, parting, partings, ways_to
from nearreach.making import table_of
from nearreach.tables import is_table
from tests.helpers import (
    THIRTY_TWO, EqualToAll, book, changed, grown_tables, is_kept, is_least, is_numbered_by_words, many, odd_things, one,
    plain_alike, plain_ways, row, swollen, walk, words_upto,
)

A, B = one("a"), one("b")
ONE = ("a", ((0,),), (-1,))
# Rooms 1 and 3 are alike, and so are 0 and 4; 2 comes ahead of 1 by its least word.
ALIKE = ("ab", ((2, 1), (4, 3), (1, 2), (0, 1), (2, 3)), (-1, 0, 1, 0, -1))
LEAST = table_of(book(row(A, many(B)), row(B, B)))


def plain_parting(table, one, other):
    """The least word by trying all in their order; no two rooms need a word with more signs than there are rooms."""
    for word in words_upto(table[0], len(table[1])):
        if table[2][walk(table, one, word)] != table[2][walk(table, other, word)]:
            return word
    return None


def plain_holds(table, ways, rows):
    rooms = len(table[1])

    def is_word(word):
        return type(word) is str and set(word) <= set(table[0])

    if type(ways) is not tuple or len(ways) != rooms or type(rows) is not tuple:
        return False
    if not all(is_word(word) and walk(table, 0, word) == room for room, word in enumerate(ways)):
        return False
    if not all(type(each) is tuple and len(each) == 3 and is_word(each[2]) for each in rows):
        return False
    pairs = [(one, other) for one in range(rooms) for other in range(one + 1, rooms)]
    if repr([each[:2] for each in rows]) != repr(pairs):
        return False
    return all(table[2][walk(table, one, word)] != table[2][walk(table, other, word)] for one, other, word in rows)


class LeastTest(unittest.TestCase):
    def test_by_hand(self):
        self.assertEqual(least_of(ALIKE), ("ab", ((1, 2), (2, 1), (0, 2)), (-1, 1, 0)))
        self.assertEqual(least_of(ONE), ONE)
        self.assertEqual(least_of(("ab", ((1, 0), (0, 1)), (-1, -1))), ("ab", ((0, 0),), (-1,)))
        self.assertEqual(least_of(("a", ((1,), (2,), (1,)), (-1, 0, 0))), ("a", ((1,), (1,)), (-1, 0)))
        # Nothing is alike here, but the rooms are numbered anew.
        self.assertEqual(least_of(("ba", ((2, 1), (0, 0), (1, 1)), (-1, 4, 2))),
                         ("ba", ((1, 2), (2, 2), (0, 0)), (-1, 2, 4)))

    def test_some_tables(self):
        fewer, same = 0, 0
        for table in grown_tables(300, seed=51):
            least = least_of(table)
            self.assertIs(is_table(least), True)
            self.assertEqual(least[0], table[0])
            self.assertTrue(is_least(least) and is_numbered_by_words(least), table)
            self.assertEqual(len(least[1]), len({min(other for one, other in plain_alike(table) if one == room)
                                                 for room in range(len(table[1]))}))
            for word in words_upto(table[0], 6 if len(table[0]) < 3 else 4):
                self.assertEqual(least[2][walk(least, 0, word)], table[2][walk(table, 0, word)])
            self.assertEqual(least_of(least), least)
            fewer += len(least[1]) < len(table[1])
            same += least == table
        self.assertGreater(min(fewer, same), 20)

    def test_swollen_tables(self):
        source = random.Random(52)
        for table in grown_tables(60, seed=52, most=8):
            least = least_of(table)
            for times in (2, 3, 4):
                bigger = swollen(source, table, times)
                self.assertEqual(least_of(bigger), least)

    def test_the_table_of_a_book_is_its_least(self):
        for table in [LEAST, table_of(THIRTY_TWO)]:
            self.assertEqual(least_of(table), table)

    def test_nothing_is_changed(self):
        for table in grown_tables(20, seed=53):
            is_kept(self, least_of, table)
            is_kept(self, ways_to, table)
            is_kept(self, parting, table, 0, len(table[1]) - 1)
            is_kept(self, partings, table)
            is_kept(self, least_holds, table, ways_to(table), partings(table))
            is_kept(self, least_holds, table, ["", []], [[0, 1, ""], {}])


class WayTest(unittest.TestCase):
    def test_by_hand(self):
        self.assertEqual(ways_to(ONE), ("",))
        self.assertEqual(ways_to(ALIKE), ("", "b", "a", "bb", "ba"))
        self.assertEqual(ways_to(("ba", ((1, 1), (0, 2), (2, 2)), (-1, 0, 0))), ("", "b", "ba"))

    def test_some_tables(self):
        for table in grown_tables(200, seed=54, most=12):
            self.assertEqual(ways_to(table), plain_ways(table))

    def test_by_trying_all_words(self):
        for table in grown_tables(60, seed=55, most=5):
            words = words_upto(table[0], 4)
            told = [next(word for word in words if walk(table, 0, word) == room) for room in range(len(table[1]))]
            self.assertEqual(ways_to(table), tuple(told))

    def test_thirty_two_rooms(self):
        table = ("ab", tuple((min(room + 1, 31), 0) for room in range(32)), (-1,) * 31 + (0,))
        self.assertEqual(ways_to(table), tuple("a" * room for room in range(32)))


class PartingTest(unittest.TestCase):
    def test_by_hand(self):
        self.assertEqual(partings(ONE), ())
        self.assertEqual(partings(ALIKE), (
            (0, 1, ""), (0, 2, ""), (0, 3, ""), (0, 4, None), (1, 2, ""), (1, 3, None), (1, 4, ""), (2, 3, ""),
            (2, 4, ""), (3, 4, "")))
        self.assertEqual(LEAST[2], (-1, 0, -1, -1, 1))
        self.assertEqual(partings(LEAST), (
            (0, 1, ""), (0, 2, "a"), (0, 3, "a"), (0, 4, ""), (1, 2, ""), (1, 3, ""), (1, 4, ""), (2, 3, "b"),
            (2, 4, ""), (3, 4, "")))

    def test_a_room_and_itself(self):
        for table in [ONE, ALIKE, LEAST]:
            for room in range(len(table[1])):
                self.assertIs(parting(table, room, room), None)

    def test_some_tables(self):
        found = set()
        for table in grown_tables(200, seed=56, most=5, kinds=(-1, -1, -1, -1, 2)):
            rooms = range(len(table[1]))
            for one in rooms:
                for other in rooms:
                    told = plain_parting(table, one, other)
                    self.assertEqual(parting(table, one, other), told, (table, one, other))
                    found.add(told)
            self.assertEqual(partings(table), tuple(
                (one, other, plain_parting(table, one, other)) for one in rooms for other in rooms if one < other))
        self.assertTrue({None, "", "a", "b", "c", "aa", "ab", "ba", "aaa", "aba"} <= found, found)

    def test_long_ones(self):
        table = ("ab", tuple((min(room + 1, 31), 0) for room in range(32)), (-1,) * 31 + (0,))
        self.assertEqual(parting(table, 0, 1), "a" * 30)
        self.assertEqual(parting(table, 30, 0), "a")
        self.assertEqual(parting(table, 31, 30), "")
        self.assertIs(least_holds(table, ways_to(table), partings(table)), True)


class HoldTest(unittest.TestCase):
    def test_told_ones_hold_where_the_table_is_least(self):
        good = 0
        for table in grown_tables(200, seed=57):
            told = least_holds(table, ways_to(table), partings(table))
            self.assertIs(told, is_least(table))
            good += told
            least = least_of(table)
            self.assertIs(least_holds(least, ways_to(least), partings(least)), True)
        self.assertGreater(good, 30)
        self.assertLess(good, 170)

    def test_other_words_that_do_as_well(self):
        table = ("a", ((1,), (0,)), (-1, 0))
        self.assertIs(least_holds(table, ("", "a"), ((0, 1, ""),)), True)
        self.assertIs(least_holds(table, ("aa", "aaa"), ((0, 1, "aaaa"),)), True)
        self.assertIs(least_holds(table, ("a" * 1000, "a" * 999), ((0, 1, "a" * 1000),)), True)
        self.assertIs(least_holds(table, ("a", "a"), ((0, 1, ""),)), False)

    def test_a_table_that_is_not_least(self):
        ways = ways_to(ALIKE)
        for word in ["", "a", "b", "abab", None]:
            rows = tuple((one, other, word if told is None else told) for one, other, told in partings(ALIKE))
            self.assertIs(least_holds(ALIKE, ways, rows), False)
        # Pairs left out show nothing.
        self.assertIs(least_holds(ALIKE, ways, tuple(each for each in partings(ALIKE) if each[2] is not None)), False)

    def test_rooms_of_a_table_may_be_numbered_anyhow(self):
        table = ("ba", ((2, 1), (0, 0), (1, 1)), (-1, 4, 2))
        self.assertIs(least_holds(table, ways_to(table), partings(table)), True)

    def test_changed_ones(self):
        good = 0
        for table in [LEAST, ("a", ((1,), (0,)), (-1, 0)), ONE, ("ba", ((2, 1), (0, 0), (1, 1)), (-1, 4, 2)),
                      ("ab", ((1, 0), (2, 0), (2, 2)), (-1, -1, 0)), ALIKE]:
            ways, rows = ways_to(table), partings(table)
            for other in changed(ways):
                self.assertIs(least_holds(table, other, rows), plain_holds(table, other, rows), repr(other)[:200])
                good += least_holds(table, other, rows)
            for other in changed(rows):
                self.assertIs(least_holds(table, ways, other), plain_holds(table, ways, other), repr(other)[:200])
                good += least_holds(table, ways, other)
        self.assertGreater(good, 10)

    def test_changes_by_hand(self):
        table = ("ab", ((1, 0), (2, 0), (2, 2)), (-1, -1, 0))
        ways, rows = ("", "a", "aa"), ((0, 1, "a"), (0, 2, ""), (1, 2, ""))
        self.assertIs(least_holds(table, ways, rows), True)
        for other in [["", "a", "aa"], ("", "a"), ("", "a", "aa", "aa"), ("", "a", "ab"), ("", "a", "c"),
                      ("", "a", None), ("", ("a",), "aa"), (0, "a", "aa"), ("", "a", b"aa"), ("a", "", "aa"),
                      ("", "a", EqualToAll())]:
            self.assertIs(least_holds(table, other, rows), False, other)
        for other in [
            list(rows), rows[:2], rows + (rows[0],), rows[::-1], (rows[1], rows[0], rows[2]),
            ((1, 0, "a"), *rows[1:]), ((False, 1, "a"), *rows[1:]), ((0, True, "a"), *rows[1:]),
            ([0, 1, "a"], *rows[1:]), ((0, 1), *rows[1:]), ((0, 1, "a", ""), *rows[1:]), ((0, 1, None), *rows[1:]),
            ((0, 1, "b"), *rows[1:]), ((0, 1, ""), *rows[1:]), ((0, 1, "ac"), *rows[1:]), ((0, 1, ["a"]), *rows[1:]),
            ((0, 0, "a"), *rows[1:]), ((EqualToAll(), 1, "a"), *rows[1:]), ("01a", *rows[1:]), (None, *rows[1:]),
        ]:
            self.assertIs(least_holds(table, ways, other), False, other)

    def test_odd_things(self):
        ways, rows = ways_to(LEAST), partings(LEAST)
        for thing in odd_things():
            self.assertIs(least_holds(LEAST, thing, rows), False)
            self.assertIs(least_holds(LEAST, ways, thing), False)
            self.assertIs(least_holds(LEAST, (thing, *ways[1:]), rows), repr(thing) == "''")
            self.assertIs(least_holds(LEAST, ways, (thing, *rows[1:])), False)
            self.assertIs(least_holds(LEAST, ways, ((0, 1, thing), *rows[1:])), repr(thing) == "''")
            self.assertIs(least_holds(ONE, ("a",), thing), repr(thing) == "()")
