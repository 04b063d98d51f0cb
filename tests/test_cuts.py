import random
import unittest

from nearreach.cuts import cut, cut_holds, first_piece
from nearreach.errors import NoText
from nearreach.making import table_of
from tests.helpers import (
    EqualToAll, book, changed, grown_tables, is_kept, many, odd_things, one, plain_cut, plain_first, row, some_text,
    words_upto,
)

A, B, C = one("a"), one("b"), one("c")
# a, then abbb as the longest behind ab and abb which have no kind, and b.
TABLE = table_of(book(A, row(A, B, B, B), B, tongue="abc"))
# A table where no word has a kind.
STILL = ("ab", ((1, 0), (0, 1)), (-1, -1))


def changed_pieces(pieces):
    """Every list that comes of a change at one place of a list of pieces, and other things too."""
    for thing in changed(tuple(pieces)):
        yield list(thing) if type(thing) is tuple else thing
    yield tuple(pieces)
    yield [list(piece) for piece in pieces] if pieces else ()


class FirstTest(unittest.TestCase):
    def test_by_hand(self):
        for text, at, told in [
            ("abbb", 0, (1, 4)), ("abb", 0, (0, 1)), ("abb", 1, (2, 2)), ("abb", 2, (2, 3)), ("abb", 3, None),
            ("cabbba", 0, None), ("cabbba", 1, (1, 5)), ("cabbba", 2, (2, 3)), ("cabbba", 5, (0, 6)),
            ("cabbba", 6, None), ("", 0, None), ("c", 0, None), ("c", 1, None), ("aa", 0, (0, 1)), ("aa", 1, (0, 2)),
        ]:
            self.assertEqual(first_piece(TABLE, text, at), told, (text, at))

    def test_the_longest_comes_behind_shorter_ones(self):
        table = table_of(book(row(A, many(A)), row(A, A, A, B, B, A), many(row(A, B)), tongue="ab"))
        for text, told in [("a", (0, 1)), ("aa", (0, 2)), ("aaab", (0, 3)), ("aaabb", (0, 3)), ("aaabba", (1, 6)),
                           ("ab", (2, 2)), ("aba", (2, 2)), ("abababb", (2, 6)), ("aab", (0, 2)), ("b", None)]:
            self.assertEqual(first_piece(table, text, 0), told, text)

    def test_some_tables(self):
        source = random.Random(71)
        for table in grown_tables(150, seed=71):
            for text in words_upto(table[0], 3) + [some_text(source, table[0], 12)]:
                for at in range(len(text) + 1):
                    self.assertEqual(first_piece(table, text, at), plain_first(table, text, at), (table, text, at))

    def test_no_text(self):
        for thing in odd_things() + ["abx", "A", "ab\n", ("a",), ["a"], b"a", EqualToAll()]:
            if repr(thing) == "''":
                continue
            for call in [lambda: first_piece(TABLE, thing, 0), lambda: cut(TABLE, thing)]:
                with self.assertRaises(NoText, msg=repr(thing)[:100]):
                    call()

    def test_no_text_also_behind_the_first_piece(self):
        with self.assertRaises(NoText):
            first_piece(TABLE, "acx", 0)
        with self.assertRaises(NoText):
            first_piece(TABLE, "xaa", 2)
        with self.assertRaises(NoText):
            cut(TABLE, "cx")

    def test_nothing_is_changed(self):
        is_kept(self, first_piece, TABLE, "abbb", 0)
        is_kept(self, cut, TABLE, "abbbaab")
        is_kept(self, cut_holds, TABLE, "abbbaab", *cut(TABLE, "abbbaab"))
        is_kept(self, cut_holds, TABLE, "ab", [[0, 0, 1], {}], 1)


class CutTest(unittest.TestCase):
    def test_by_hand(self):
        for text, told in [
            ("", ([], 0)), ("c", ([], 0)), ("a", ([(0, 0, 1)], 1)), ("abbb", ([(1, 0, 4)], 4)),
            ("abb", ([(0, 0, 1), (2, 1, 2), (2, 2, 3)], 3)), ("aabbbca", ([(0, 0, 1), (1, 1, 5)], 5)),
            ("abbc", ([(0, 0, 1), (2, 1, 2), (2, 2, 3)], 3)), ("ca", ([], 0)),
        ]:
            self.assertEqual(cut(TABLE, text), told)
            self.assertEqual([type(cut(TABLE, text)), type(cut(TABLE, text)[0])], [tuple, list])
            self.assertIs(cut_holds(TABLE, text, *told), True)

    def test_no_word_has_a_kind(self):
        self.assertEqual(cut(STILL, ""), ([], 0))
        self.assertEqual(cut(STILL, "abba"), ([], 0))
        self.assertIs(first_piece(STILL, "abba", 2), None)

    def test_240_signs(self):
        self.assertEqual(cut(TABLE, "abbb" * 60), ([(1, at, at + 4) for at in range(0, 240, 4)], 240))
        self.assertEqual(cut(TABLE, "b" * 239 + "c"), ([(2, at, at + 1) for at in range(239)], 239))
        whole = ("a", ((1,), (1,)), (-1, 5))
        self.assertEqual(cut(whole, "a" * 240), ([(5, 0, 240)], 240))
        ends = table_of(book(A, row(many(A), B)))
        self.assertEqual(cut(ends, "a" * 240), ([(0, at, at + 1) for at in range(240)], 240))
        self.assertEqual(cut(ends, "a" * 239 + "b"), ([(1, 0, 240)], 240))
        self.assertIs(cut_holds(ends, "a" * 240, *cut(ends, "a" * 240)), True)

    def test_some_tables(self):
        source = random.Random(72)
        ends = set()
        for table in grown_tables(200, seed=72, kinds=(-1, -1, 0, 1, 5)):
            for text in words_upto(table[0], 3) + [some_text(source, table[0], 15)]:
                told = cut(table, text)
                self.assertEqual(told, plain_cut(table, text))
                self.assertIs(cut_holds(table, text, *told), True)
                ends.add((told[1] == len(text), told[1] > 0, len(told[0]) > 1))
        self.assertEqual(len(ends), 6)

    def test_a_told_list_is_the_askers_own(self):
        pieces, place = cut(TABLE, "abbbab")
        before = list(pieces)
        pieces.append((0, 0, 0))
        pieces[0] = None
        self.assertEqual(cut(TABLE, "abbbab"), (before, place))
        self.assertIs(cut_holds(TABLE, "abbbab", pieces, place), False)
        self.assertIs(cut_holds(TABLE, "abbbab", before, place), True)
        self.assertIsNot(cut(TABLE, "ab")[0], cut(TABLE, "ab")[0])


class HoldTest(unittest.TestCase):
    def test_changed_pieces(self):
        for text in ["", "c", "a", "abbbab", "aabbbca"]:
            pieces, place = cut(TABLE, text)
            for other in changed_pieces(pieces):
                # A list for the tuple, which the changes bring too, is right here.
                self.assertIs(cut_holds(TABLE, text, other, place), repr(other) == repr(pieces), (text, other))
            for other in changed(place):
                self.assertIs(cut_holds(TABLE, text, pieces, other), False, (text, other))

    def test_changes_by_hand(self):
        told = [(0, 0, 1), (1, 1, 5)]
        self.assertIs(cut_holds(TABLE, "aabbbca", told, 5), True)
        for pieces, place in [
            (tuple(told), 5), ([[0, 0, 1], (1, 1, 5)], 5), ([(False, 0, 1), (1, 1, 5)], 5),
            ([(0, 0, True), (1, 1, 5)], 5), ([(0, 0, 1), (True, 1, 5)], 5), (told[:1], 5), (told[:1], 1),
            (told + [(0, 5, 6)], 5), (told + [(0, 6, 7)], 7), ([(1, 0, 1), (1, 1, 5)], 5),
            ([(0, 1, 1), (1, 1, 5)], 5), ([(0, 0, 2), (1, 1, 5)], 5), (told, 6), (told, 7), (told, 0), (told, None),
            (told, (5,)), (told, "5"), (told, EqualToAll()), (told[::-1], 5), ([(0, 0, 1, 1), (1, 1, 5)], 5),
            ([(0, 0), (1, 1, 5)], 5), ([None, (1, 1, 5)], 5), ([EqualToAll(), (1, 1, 5)], 5), (EqualToAll(), 5),
            ([(EqualToAll(), 0, 1), (1, 1, 5)], 5), ([], 5), (None, 5), ({}, 5), (told + told, 5),
        ]:
            self.assertIs(cut_holds(TABLE, "aabbbca", pieces, place), False, (pieces, place))
        self.assertIs(cut_holds(TABLE, "a", [(0, 0, 1)], True), False)
        self.assertIs(cut_holds(TABLE, "", [], False), False)
        self.assertIs(cut_holds(TABLE, "", (), 0), False)

    def test_a_shorter_piece_is_not_the_cut(self):
        self.assertIs(cut_holds(TABLE, "abbb", [(0, 0, 1), (2, 1, 2), (2, 2, 3), (2, 3, 4)], 4), False)

    def test_odd_things(self):
        for thing in odd_things():
            self.assertIs(cut_holds(TABLE, "", thing, 0), repr(thing) == "[]")
            self.assertIs(cut_holds(TABLE, "", [], thing), repr(thing) == "0")
            self.assertIs(cut_holds(TABLE, "a", [thing], 1), False)
            self.assertIs(cut_holds(TABLE, "a", [(0, 0, thing)], 1), repr(thing) == "1")
            self.assertIs(cut_holds(TABLE, "a", [(0, 0, 1)], thing), repr(thing) == "1")
