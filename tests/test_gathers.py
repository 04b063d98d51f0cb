import random
import unittest

from nearreach.books import book_spread, crowd_kind
from nearreach.errors import TooMany
from nearreach.gathers import gathering, gathering_holds
from nearreach.making import table_of
from nearreach.spreads import behind, stands
from tests.helpers import (
    THIRTY_THREE, THIRTY_TWO, EqualToAll, book, changed, either, is_kept, many, odd_things, one, plain_ways, row,
    some_books, swollen, times, walk, words_upto,
)

A, B, AB = one("a"), one("b"), one("ab")
BOOK = book(row(A, many(B)), either(A, row(B, B)))


def fitting(each, spread):
    """Whether a thing is a crowd of a book's spread."""
    if repr(each) == "(0,)":
        return True
    if type(each) is not tuple or not all(type(place) is int and 1 <= place < len(spread[0]) for place in each):
        return False
    return all(one < other for one, other in zip(each, each[1:]))


def plain_gathering(each, table):
    """The crowds that lead to each room of a table, found by going on from word to word."""
    signs, owners, nexts, lasts = book_spread(each)
    found = [((0,), 0)]
    for crowd, room in found:
        for sign in each[0]:
            led = (behind((signs, nexts, lasts), crowd, sign), walk(table, room, sign))
            if led not in found:
                found.append(led)
    return tuple(tuple(sorted({crowd for crowd, room in found if room == number})) for number in range(len(table[1])))


def plain_holds(each, table, rows):
    spread = book_spread(each)
    if each[0] != table[0] or type(rows) is not tuple or len(rows) != len(table[1]):
        return False
    if not all(type(row) is tuple and all(fitting(crowd, spread) for crowd in row) for row in rows):
        return False
    if (0,) not in rows[0]:
        return False
    for room, row in enumerate(rows):
        for crowd in row:
            if crowd_kind(spread, crowd) != table[2][room]:
                return False
            for sign in table[0]:
                if behind((spread[0], spread[2], spread[3]), crowd, sign) not in rows[walk(table, room, sign)]:
                    return False
    return True


def light_books(count, seed):
    """Books with tables that aren't too big."""
    for each in some_books(count, seed):
        try:
            yield each, table_of(each)
        except TooMany:
            pass


class GatheringTest(unittest.TestCase):
    def test_some_by_hand(self):
        self.assertEqual(gathering(book()), (((), (0,)),))
        self.assertEqual(gathering(book(A)), (((0,),), ((1,),), ((),)))
        self.assertEqual(gathering(book(row(many(B), A))), (((0,), (1,)), ((2,),), ((),)))
        self.assertEqual(gathering(book(many(AB))), (((0,),), ((1,),)))
        self.assertEqual(gathering(book(either(A, B))), (((0,),), ((1,), (2,)), ((),)))
        self.assertEqual(gathering(BOOK), (((0,),), ((1, 3), (2,)), ((4,),), ((),), ((5,),)))

    def test_crowds_of_short_words(self):
        for each, table in light_books(60, seed=41):
            signs, owners, nexts, lasts = book_spread(each)
            told = gathering(each)
            self.assertEqual(len(told), len(table[1]))
            for word in words_upto(each[0], 4 if len(each[0]) < 4 else 2):
                self.assertIn(stands((signs, nexts, lasts), word)[-1], told[walk(table, 0, word)])

    def test_some_books(self):
        crowds = set()
        for each, table in light_books(150, seed=42):
            told = gathering(each)
            self.assertEqual(told, plain_gathering(each, table), each)
            self.assertIs(gathering_holds(each, table, told), True)
            crowds |= {len(row) for row in told}
        self.assertTrue({1, 2, 3, 4} <= crowds)

    def test_too_many(self):
        self.assertEqual(len(gathering(THIRTY_TWO)), 32)
        with self.assertRaises(TooMany):
            gathering(THIRTY_THREE)

    def test_hundreds_of_crowds(self):
        each = book(many(AB), row(many(AB), A, times(AB, 4, 4), times(AB, 3, 3)))
        told = gathering(each)
        self.assertEqual([len(row) for row in told], [1, 256])
        self.assertIs(gathering_holds(each, table_of(each), told), True)
        self.assertIs(gathering_holds(each, table_of(each), (told[0], told[1][1:])), False)

    def test_nothing_is_changed(self):
        for each, table in light_books(20, seed=43):
            is_kept(self, gathering, each)
            is_kept(self, gathering_holds, each, table, gathering(each))
            is_kept(self, gathering_holds, each, table, [[[0]], [], {}])


class HoldTest(unittest.TestCase):
    def test_another_order_and_crowds_told_twice(self):
        for each, table in light_books(60, seed=44):
            told = gathering(each)
            self.assertIs(gathering_holds(each, table, tuple(row[::-1] for row in told)), True)
            self.assertIs(gathering_holds(each, table, tuple(row + row for row in told)), True)
            self.assertIs(gathering_holds(each, table, tuple((row * 2000)[:2000] for row in told)), True)

    def test_a_table_with_more_rooms(self):
        source = random.Random(45)
        more = 0
        for each, table in light_books(80, seed=45):
            if len(table[1]) > 16:
                continue
            bigger = swollen(source, table, 2)
            more += len(bigger[1]) > len(table[1])
            told = plain_gathering(each, bigger)
            self.assertIs(gathering_holds(each, bigger, told), True)
            # All crowds of a room may stand in each of its copies.
            whole = gathering(each)
            rows = tuple(whole[walk(table, 0, word)] for word in plain_ways(bigger))
            self.assertIs(gathering_holds(each, bigger, rows), True)
        self.assertGreater(more, 30)

    def test_more_crowds_than_words_lead_to(self):
        # No word leads to both places at once, but signs lead on from there as they should.
        each = book(either(A, B))
        table = table_of(each)
        self.assertIs(gathering_holds(each, table, (((0,),), ((1,), (2,), (1, 2)), ((),))), True)
        self.assertIs(gathering_holds(each, table, (((0,),), ((1,), (2,)), ((), (1,)))), False)
        self.assertIs(gathering_holds(each, table, (((0,), ()), ((1,), (2,)), ((),))), False)

    def test_other_tables(self):
        told = gathering(BOOK)
        tongue, goes, kinds = table_of(BOOK)
        self.assertIs(gathering_holds(BOOK, (tongue, goes, kinds), told), True)
        for at in range(1, len(kinds)):
            for kind in range(-1, 6):
                other = (tongue, goes, kinds[:at] + (kind,) + kinds[at + 1:])
                self.assertIs(gathering_holds(BOOK, other, told), kind == kinds[at])

    def test_another_tongue(self):
        # Each sign leads alike here, so that only the tongue's order is unlike.
        each = book(many(AB))
        for tongue in ["ba", "ac", "cd"]:
            self.assertIs(gathering_holds(each, (tongue, ((1, 1), (1, 1)), (-1, 0)), gathering(each)), False)
        self.assertIs(gathering_holds(each, ("ab", ((1, 1), (1, 1)), (-1, 0)), gathering(each)), True)
        self.assertIs(gathering_holds(each, ("abc", ((1, 1, 1), (1, 1, 1)), (-1, 0)), gathering(each)), False)
        self.assertIs(gathering_holds(each, ("a", ((1,), (1,)), (-1, 0)), gathering(each)), False)

    def test_changed_rows(self):
        good = 0
        for each in [BOOK, book(), book(A), book(many(AB), A), book(row(many(B), A)), book(either(A, A, A), tongue="a"),
                     book(times(AB, 1, 3), row(A, B))]:
            table = table_of(each)
            for rows in changed(gathering(each)):
                self.assertIs(gathering_holds(each, table, rows), plain_holds(each, table, rows), repr(rows)[:200])
                good += gathering_holds(each, table, rows)
        self.assertGreater(good, 10)

    def test_changes_by_hand(self):
        table = table_of(BOOK)
        told = (((0,),), ((1, 3), (2,)), ((4,),), ((),), ((5,),))
        self.assertEqual(gathering(BOOK), told)
        for crowds in [
            ((1, 3), (True, 3), (2,)), ((True, 3), (2,)), ((3, 1), (2,)), ((1, 3, 3), (2,)), ((1,), (2,)), ((1, 3),),
            ((2,),), ((1, 2, 3), (2,)), ((1, 6), (2,)), ((0, 1, 3), (2,)), (), ((1, 3), (2,), (6,)), (1, 3), (2,),
            ((1, 3), (2,), None), ((1, 3), (2,), ()), ((1, 3), [2]), [(1, 3), (2,)], ((1, 3), (2,), (10 ** 999,)),
            ((1, 3), (2,), EqualToAll()), ((1, 3), (2,), (-1,)), ((1, 3), (2,), (4,)), ((1, 3), (2,), (0,)),
            ((1, 3), (2,), (0, 0)), ((1, 3), 2), ((1, 3), "2"), ((1, 3), (2,), "1"), None,
        ]:
            self.assertIs(gathering_holds(BOOK, table, (told[0], crowds, *told[2:])), False, crowds)
        self.assertIs(gathering_holds(BOOK, table, (told[0], ((2,), (1, 3), (1, 2, 3), (1, 3)), *told[2:])), True)
        for rows in [
            told[1:], told[:-1], told + ((),), told + (((),),), list(told), (list(told[0]), *told[1:]),
            (([0],), *told[1:]), ((), *told[1:]), (((False,),), *told[1:]), (((),), *told[1:]), told[::-1],
        ]:
            self.assertIs(gathering_holds(BOOK, table, rows), False, rows)

    def test_odd_things(self):
        table = table_of(BOOK)
        told = gathering(BOOK)
        for thing in odd_things():
            self.assertIs(gathering_holds(BOOK, table, thing), False)
            self.assertIs(gathering_holds(BOOK, table, (thing, *told[1:])), False)
            self.assertIs(gathering_holds(BOOK, table, (*told[:3], thing, *told[4:])), repr(thing)[:3] == "(()")
            self.assertIs(gathering_holds(BOOK, table, ((told[0][0], thing), *told[1:])), repr(thing) == "(0,)")
            self.assertIs(gathering_holds(BOOK, table, (*told[:3], ((), thing), *told[4:])), repr(thing) == "()")

    def test_a_great_paper(self):
        # Every room with two thousand crowds.
        table = table_of(THIRTY_TWO)
        rows = tuple((row * 2000)[:2000] for row in gathering(THIRTY_TWO))
        self.assertIs(gathering_holds(THIRTY_TWO, table, rows), True)
        # And of the heaviest book every crowd in every room, which can't hold.
        heavy = book(times(A, 4, 4), times(A, 4, 4), times(A, 2, 2))
        crowds = tuple(tuple(place + 1 for place in range(10) if number >> place & 1) for number in range(1024))
        chain = ("ab", tuple((min(room + 1, 31), 0) for room in range(32)), (-1,) * 32)
        self.assertIs(gathering_holds(heavy, chain, ((*crowds, (0,)),) * 32), False)
        # Where no crowd has a kind all of them lead to one another.
        still = book(*[times(A, 0, 0)] * 6)
        self.assertIs(gathering_holds(still, chain, (((0,), ()),) * 32), True)
