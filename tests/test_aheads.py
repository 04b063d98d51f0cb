import random
import unittest

from nearreach.aheads import ahead_rows, cut_by, rows_hold
from nearreach.cuts import cut
from nearreach.errors import NoText
from nearreach.making import table_of
from tests.helpers import (
    ENDLESS, FARTHEST, EqualToAll, book, changed, grown_tables, is_kept, is_own, many, odd_things, one, plain_cut, row,
    some_text, walk, words_upto,
)

A, B, C = one("a"), one("b"), one("c")
# a, ab and b; behind a b no a comes.
SOME = table_of(book(A, row(A, B, B), B, tongue="abc"))
STILL = ("ab", ((1, 0), (0, 1)), (-1, -1))


def plain_rows(table, text):
    """For each place the rooms for which some beginning of the rest leads to a kind, each tried."""
    rooms = range(len(table[1]))
    return tuple(tuple(
        room for room in rooms
        if any(table[2][walk(table, room, text[place:end])] != -1 for end in range(place + 1, len(text) + 1))
    ) for place in range(len(text) + 1))


class Counting(tuple):
    """Goes that count how often a room's row is asked for."""

    asked = 0

    def __getitem__(self, at):
        Counting.asked += 1
        return tuple.__getitem__(self, at)


class RowsTest(unittest.TestCase):
    def test_by_hand(self):
        self.assertEqual(SOME, ("abc", ((1, 2, 3), (3, 4, 3), (3, 3, 3), (3, 3, 3), (3, 5, 3), (3, 3, 3)),
                                (-1, 0, 2, -1, -1, 1)))
        self.assertEqual(ahead_rows(SOME, ""), ((),))
        self.assertEqual(ahead_rows(SOME, "a"), ((0,), ()))
        self.assertEqual(ahead_rows(SOME, "abb"), ((0,), (0, 1, 4), (0, 4), ()))
        # A fault at the c; behind it a piece stands all the same.
        self.assertEqual(ahead_rows(SOME, "bcb"), ((0, 4), (), (0, 4), ()))
        self.assertEqual(ahead_rows(STILL, "ab"), ((), (), ()))

    def test_at_the_length_no_rooms(self):
        for table in grown_tables(40, seed=201):
            for text in words_upto(table[0], 2):
                told = ahead_rows(table, text)
                self.assertEqual((len(told), told[-1]), (len(text) + 1, ()))
                self.assertEqual({type(each) for each in told} | {type(told)}, {tuple})

    def test_some_tables(self):
        source = random.Random(202)
        sizes, faults = set(), 0
        for table in grown_tables(150, seed=202) + [SOME, STILL, ENDLESS]:
            for text in words_upto(table[0], 3) + [some_text(source, table[0], 14) for _ in range(3)]:
                told = ahead_rows(table, text)
                self.assertEqual(told, plain_rows(table, text), (table, text))
                sizes |= set(map(len, told))
                faults += plain_cut(table, text)[1] < len(text)
        self.assertTrue({0, 1, 2, 3, 4, 5, 6} <= sizes)
        self.assertGreater(faults, 100)

    def test_long_texts(self):
        source = random.Random(203)
        for table in grown_tables(6, seed=203, most=32) + [FARTHEST, ENDLESS]:
            text = some_text(source, table[0], 240)
            told = ahead_rows(table, text)
            self.assertEqual(told, plain_rows(table, text))
            self.assertEqual(len(told), 241)
            self.assertIs(rows_hold(table, text, told), True)
            self.assertEqual(cut_by(table, text, told), plain_cut(table, text))

    def test_no_text(self):
        for thing in odd_things() + ["abx", "A", "ab\n", ("a",), ["a"], b"a", EqualToAll(), "x", "a" * 239 + "d"]:
            if repr(thing) != "''":
                with self.assertRaises(NoText, msg=repr(thing)[:100]):
                    ahead_rows(SOME, thing)

    def test_nothing_is_changed(self):
        rows = ahead_rows(SOME, "abbcab")
        is_kept(self, ahead_rows, SOME, "abbcab")
        is_kept(self, rows_hold, SOME, "abbcab", rows)
        is_kept(self, rows_hold, SOME, "a", [[0], {}])
        is_kept(self, cut_by, SOME, "abbcab", rows)
        is_own(self, cut_by, SOME, "abbcab", rows)
        is_own(self, cut_by, SOME, "", ((),))


class HoldTest(unittest.TestCase):
    def test_changed_rows(self):
        source = random.Random(204)
        looked = 0
        for table in grown_tables(25, seed=204, most=4) + [SOME]:
            for text in ["", table[0][0], some_text(source, table[0], 4)]:
                told = ahead_rows(table, text)
                self.assertIs(rows_hold(table, text, told), True)
                for rows in changed(told):
                    self.assertIs(rows_hold(table, text, rows), False, (table, text, repr(rows)[:200]))
                    looked += 1
        self.assertGreater(looked, 3000)

    def test_changes_by_hand(self):
        told = ((0,), (0, 1, 4), (0, 4), ())
        self.assertIs(rows_hold(SOME, "abb", told), True)
        for rows in [
            ((0,), (0, 1), (0, 4), ()), ((0,), (0, 1, 3, 4), (0, 4), ()), ((0,), (0, 1, 1, 4), (0, 4), ()),
            ((0,), (1, 0, 4), (0, 4), ()), ((0,), (0, True, 4), (0, 4), ()), ((False,), (0, 1, 4), (0, 4), ()),
            ((0,), [0, 1, 4], (0, 4), ()), list(told), told[:-1], told[1:], told + ((),), told[::-1],
            ((0,), (0, 1, 4), (0, 4), (0,)), ((0,), (0, 1, 4), (0, 4), None), ((0,), (0, 1, 4), (0, 4), []),
            ((0,), (0, 1, 4), (0, 4), ""), ((0,), (0, 1, 4), 0, ()), ((0,), None, (0, 4), ()), (), None, (told,),
            ((0,), (0, 1, 4, 6), (0, 4), ()), ((0,), (-1, 0, 1, 4), (0, 4), ()), (EqualToAll(), *told[1:]),
            ((EqualToAll(),), *told[1:]), (("0",), *told[1:]), EqualToAll(), ((0,), (0, 4), (0, 1, 4), ()),
        ]:
            self.assertIs(rows_hold(SOME, "abb", rows), False, rows)

    def test_odd_things(self):
        for thing in odd_things():
            self.assertIs(rows_hold(SOME, "", thing), False)
            self.assertIs(rows_hold(SOME, "", (thing,)), repr(thing) == "()")
            self.assertIs(rows_hold(SOME, "a", (thing, ())), repr(thing) == "(0,)")
            self.assertIs(rows_hold(SOME, "a", ((thing,), ())), repr(thing) == "0")

    def test_rows_of_another_text(self):
        for text in words_upto("abc", 3):
            for other in words_upto("abc", 3):
                told = ahead_rows(SOME, other)
                self.assertIs(rows_hold(SOME, text, told), plain_rows(SOME, text) == told)


class CutTest(unittest.TestCase):
    def test_against_the_cut(self):
        source = random.Random(205)
        pieces = 0
        for table in grown_tables(150, seed=205, kinds=(-1, 0, 1, 5)) + [SOME, STILL, ENDLESS, FARTHEST]:
            texts = words_upto(table[0], 3) + [some_text(source, table[0], source.randint(5, 60)) for _ in range(4)]
            for text in texts:
                told = cut_by(table, text, ahead_rows(table, text))
                self.assertEqual(told, cut(table, text), (table, text))
                self.assertEqual(told, plain_cut(table, text))
                self.assertEqual((type(told), type(told[0])), (tuple, list))
                pieces = max(pieces, len(told[0]))
        self.assertGreater(pieces, 20)

    def test_goes_over_no_sign_twice(self):
        table = table_of(book(A, row(many(A), B)))
        tongue, goes, kinds = table
        for text in ["a" * 240, "a" * 239 + "b", "ab" * 120, ""]:
            rows = ahead_rows(table, text)
            counted = (tongue, Counting(goes), kinds)
            Counting.asked = 0
            self.assertEqual(cut_by(counted, text, rows), plain_cut(table, text))
            self.assertLessEqual(Counting.asked, len(text))
