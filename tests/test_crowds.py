import unittest

from nearreach.books import book_spread, crowd_kind
from nearreach.crowds import crowds_of, is_crowd, merged, numbered
from nearreach.spreads import behind, stands
from tests.helpers import (
    THIRTY_THREE, THIRTY_TWO, EqualToAll, grown_tables, odd_things, plain_alike, some_books, words_upto,
)


class CrowdTest(unittest.TestCase):
    def test_is_crowd(self):
        for thing in [(), (0,), (1,), (3,), (1, 2, 3), (1, 3)]:
            self.assertIs(is_crowd(thing, 3), True)
        for thing in [(4,), (-1,), (0, 1), (0, 0), (2, 1), (1, 1), (True,), (False,), (1, None), ("1",), [1], [], "",
                      (1, 2, 3, 3), (0, 1, 2, 3), ((),), (EqualToAll(),), EqualToAll(), (10 ** 999,)]:
            self.assertIs(is_crowd(thing, 3), False, thing)
        for thing in odd_things():
            self.assertIs(is_crowd(thing, 3), repr(thing) in ("()", "(0,)"))
        self.assertEqual([is_crowd(thing, 0) for thing in [(), (0,), (1,), (False,)]], [True, True, False, False])

    def test_crowds_of(self):
        for book in some_books(60, seed=21):
            signs, owners, nexts, lasts = book_spread(book)
            crowds, goes, kinds = crowds_of(book)
            led = [stands((signs, nexts, lasts), word)[-1] for word in words_upto(book[0], 3)]
            firsts = list(dict.fromkeys(led))
            self.assertEqual(crowds[:len(firsts)], firsts)
            self.assertEqual(len(set(crowds)), len(crowds))
            self.assertEqual(kinds, [crowd_kind(book_spread(book), crowd) for crowd in crowds])
            for crowd, row in zip(crowds, goes):
                self.assertEqual([crowds[to] for to in row],
                                 [behind((signs, nexts, lasts), crowd, sign) for sign in book[0]])


class MergedTest(unittest.TestCase):
    def test_numbered(self):
        self.assertEqual(numbered([]), [])
        self.assertEqual(numbered([5, -1, 5, (), 2, -1]), [0, 1, 0, 2, 3, 1])

    def test_alike_rooms_are_one(self):
        for table in grown_tables(200, seed=22):
            rooms = merged(table[1], table[2])
            alike = plain_alike(table)
            for one in range(len(rooms)):
                for other in range(len(rooms)):
                    self.assertEqual(rooms[one] == rooms[other], (one, other) in alike)

    def test_thirty_two_and_more(self):
        for book, rooms in [(THIRTY_TWO, 32), (THIRTY_THREE, 33)]:
            crowds, goes, kinds = crowds_of(book)
            self.assertEqual(max(merged(goes, kinds)) + 1, rooms)
