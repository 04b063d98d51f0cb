import random
import unittest

from nearreach.books import kind_by_trying
from nearreach.crowds import crowds_of
from nearreach.errors import NoBook, TooHeavy, TooMany
from nearreach.making import table_of
from nearreach.tables import is_table
from tests.helpers import (
    NAMES, THIRTY_THREE, THIRTY_TWO, EqualToAll, book, changed, either, is_kept, is_least, is_numbered_by_words, many,
    odd_things, one, plain_alike, row, some_books, some_text, times, walk, words_upto,
)

A, B, AB = one("a"), one("b"), one("ab")
SIX = book(row(A, B), A, many(AB), times(B, 2, 3), either(B, row(A, A)), row())


class TableTest(unittest.TestCase):
    def looks_right(self, each, seed=1):
        source = random.Random(seed)
        table = table_of(each)
        self.assertIs(is_table(table), True, each)
        self.assertEqual(table[0], each[0])
        longest = {1: 16, 2: 6, 3: 4, 4: 4}.get(len(each[0]), 3)
        words = words_upto(each[0], longest) + [some_text(source, each[0], 16) for _ in range(6)]
        for word in words:
            self.assertEqual(table[2][walk(table, 0, word)], kind_by_trying(each, word), (each, word))
        self.assertTrue(is_least(table), each)
        self.assertTrue(is_numbered_by_words(table), each)
        return table

    def test_small_ones(self):
        self.assertEqual(table_of(book()), ("ab", ((0, 0),), (-1,)))
        self.assertEqual(table_of(book(tongue="\n")), ("\n", ((0,),), (-1,)))
        self.assertEqual(table_of(book(A)), ("ab", ((1, 2), (2, 2), (2, 2)), (-1, 0, -1)))
        self.assertEqual(table_of(book(A, tongue="ba")), ("ba", ((1, 2), (1, 1), (1, 1)), (-1, -1, 0)))
        self.assertEqual(table_of(book(A, tongue="a")), ("a", ((1,), (2,), (2,)), (-1, 0, -1)))
        self.assertEqual(table_of(book(B, A)), ("ab", ((1, 2), (3, 3), (3, 3), (3, 3)), (-1, 1, 0, -1)))
        self.assertEqual(table_of(book(many(row(A, A)))), ("ab", ((1, 2), (3, 2), (2, 2), (1, 2)), (-1, -1, -1, 0)))

    def test_the_word_without_signs_has_no_kind(self):
        for shape in [row(), many(times(A, 0, 0)), times(A, 0, 0), either(row(), row())]:
            self.assertEqual(table_of(book(shape)), ("ab", ((0, 0),), (-1,)))
        # A many takes it too, and still room 0 stands by itself.
        self.assertEqual(table_of(book(many(AB))), ("ab", ((1, 1), (1, 1)), (-1, 0)))

    def test_a_word_that_leads_back_to_the_beginning(self):
        self.assertEqual(table_of(book(row(many(B), A))), ("ab", ((1, 0), (2, 2), (2, 2)), (-1, 0, -1)))

    def test_two_rules_take_the_same_word(self):
        self.assertEqual(table_of(book(A, AB)), ("ab", ((1, 2), (3, 3), (3, 3), (3, 3)), (-1, 0, 1, -1)))
        self.assertEqual(table_of(book(AB, A)), ("ab", ((1, 1), (2, 2), (2, 2)), (-1, 0, -1)))

    def test_a_rule_hidden_by_one_ahead(self):
        for hidden in [A, row(A, A, B), many(B), times(AB, 1, 4)]:
            self.assertEqual(table_of(book(many(AB), hidden)), table_of(book(many(AB))))
            self.assertEqual(table_of(book(row(), many(AB), hidden))[2], (-1, 1))

    def test_each_kind_of_shape_and_six_rules(self):
        for each in [
            book(A), book(AB), book(row(A, B, A)), book(either(A, row(B, B))), book(many(A)), book(times(AB, 2, 4)),
            book(times(A, 0, 3), many(B)), SIX, book(*[one(sign) for sign in "abcdef"], tongue="fedcba"),
            book(row(one("\n"), many(one("\n"))), tongue=" \n"), book(many(row(A, times(B, 0, 2)))), THIRTY_TWO,
        ]:
            self.looks_right(each)

    def test_some_books(self):
        rules, rooms = set(), set()
        for number, each in enumerate(some_books(150, seed=31)):
            try:
                table = self.looks_right(each, seed=number)
            except TooMany:
                self.assertGreater(len(crowds_of(each)[0]), 32)
                continue
            rules.add(len(each[1]))
            rooms.add(len(table[1]))
        self.assertEqual(rules, set(range(7)))
        self.assertTrue(set(range(1, 9)) <= rooms)

    def test_thirty_two_and_thirty_three_rooms(self):
        self.assertEqual(len(self.looks_right(THIRTY_TWO)[1]), 32)
        with self.assertRaises(TooMany):
            table_of(THIRTY_THREE)
        with self.assertRaises(TooMany):
            table_of(book(row(many(AB), A, times(AB, 4, 4), AB)))
        with self.assertRaises(TooMany):
            table_of(book(row(many(AB), A, times(AB, 4, 4), times(AB, 4, 4))))

    def test_how_many_rooms_there_would_be(self):
        for each, rooms in [(THIRTY_TWO, 32), (THIRTY_THREE, 33)]:
            crowds, goes, kinds = crowds_of(each)
            alike = plain_alike((each[0], goes, kinds))
            self.assertEqual(len({min(two for first, two in alike if first == one) for one, other in alike}), rooms)

    def test_small_though_there_are_many_crowds(self):
        heavy = row(many(AB), A, times(AB, 4, 4), times(AB, 3, 3))
        each = book(many(AB), heavy)
        self.assertGreater(len(crowds_of(each)[0]), 200)
        self.assertEqual(table_of(each), ("ab", ((1, 1), (1, 1)), (-1, 0)))
        with self.assertRaises(TooMany):
            table_of(book(heavy, many(AB)))

    def test_signs_that_no_rule_has(self):
        table = self.looks_right(book(row(A, many(B)), tongue="xaybzc"))
        self.assertEqual(table, ("xaybzc", ((1, 2, 1, 1, 1, 1), (1,) * 6, (1, 1, 1, 2, 1, 1)), (-1, -1, 0)))

    def test_nothing_is_changed(self):
        for each in some_books(20, seed=32, heaviest=6):
            is_kept(self, table_of, each)
        for table in [table_of(SIX)]:
            self.assertIs(type(table), tuple)
            self.assertEqual({type(each) for each in table[1]}, {tuple})
            self.assertIs(type(table[1]), tuple)
            self.assertIs(type(table[2]), tuple)


class RefusalTest(unittest.TestCase):
    def test_no_book(self):
        for thing in odd_things() + [("", ()), ("ab", []), ["ab", ()], book(one("c")), ("ab", (("x", A), ("x", B))),
                                     ("ab", SIX[1] + (("more", A),)), ("ab", (("X", A),)), (EqualToAll(), ())]:
            with self.assertRaises(NoBook, msg=repr(thing)[:200]):
                table_of(thing)

    def test_changed_books(self):
        told = 0
        for thing in changed(("ab", (("x", row(A, B)), ("y", times(A, 1, 2))))):
            try:
                table = table_of(thing)
            except NoBook:
                continue
            self.assertIs(is_table(table), True)
            told += 1
        self.assertGreater(told, 3)

    def test_too_heavy(self):
        five = row(A, A, A, A, A)
        self.assertEqual(len(table_of(book(five, five))[1]), 7)
        for each in [book(five, five, A), book(times(five, 0, 3)), book(row(five, five, B))]:
            with self.assertRaises(TooHeavy):
                table_of(each)

    def test_the_order_of_the_three(self):
        heavy = row(many(AB), A, times(AB, 4, 4), times(AB, 4, 4))
        ten, eleven = [heavy], [heavy, A]
        with self.assertRaises(TooMany):
            table_of(book(*ten))
        # Eleven places would make too many rooms too, and then a name that stands twice makes it no book.
        with self.assertRaises(TooHeavy):
            table_of(book(*eleven))
        with self.assertRaises(NoBook):
            table_of(("ab", ((NAMES[0], heavy), (NAMES[0], A))))
        with self.assertRaises(NoBook):
            table_of(("ab", ((NAMES[0], heavy), (NAMES[1], one("c")))))
