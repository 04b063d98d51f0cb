import random
import unittest

from nearreach.compares import bare, pairs, pairs_hold, parted
from nearreach.cuts import cut
from nearreach.errors import Unlike
from nearreach.least import least_of
from nearreach.making import table_of
from nearreach.tables import is_table
from tests.helpers import (
    FARTHEST, THIRTY_TWO, EqualToAll, book, changed, grown_tables, is_kept, is_least, many, odd_things, one, plain_cut,
    renumbered, row, small_tables, swollen, times, walk, words_upto,
)

A, B, AB = one("a"), one("b"), one("ab")
STILL = ("ab", ((0, 0),), (-1,))
# Each sign leads to the other room; room 1 alone has a kind.
TURNS = ("ab", ((1, 1), (0, 0)), (-1, 0))
FOUR = ("ab", ((1, 3), (2, 2), (3, 1), (0, 0)), (-1, 0, -1, 0))


def plain_parted(one, other):
    """By trying all words in their order; where words are parted, one with fewer signs than there are rooms is."""
    for word in words_upto(one[0], len(one[1]) + len(other[1]) - 1):
        if one[2][walk(one, 0, word)] != other[2][walk(other, 0, word)]:
            return word
    return None


def plain_pairs(one, other):
    """The pairs, by going on from pair to pair until there are no more."""
    found = {(0, 0)}
    while True:
        more = {pair for near, far in found for pair in zip(one[1][near], other[1][far])}
        if more <= found:
            return tuple(sorted(found))
        found |= more


def plain_holds(one, other, rows):
    if type(rows) is not tuple:
        return False
    texts = {repr((near, far)) for near in range(len(one[1])) for far in range(len(other[1]))}
    if not all(repr(pair) in texts for pair in rows) or (0, 0) not in rows:
        return False
    return all(one[2][near] == other[2][far] and set(zip(one[1][near], other[1][far])) <= set(rows)
               for near, far in rows)


def two_tables(count, seed, most=3):
    """Tables by twos of one tongue; some cut alike, some nearly so."""
    source = random.Random(seed)
    for table in small_tables(count, seed, most=most):
        tongue, goes, kinds = table
        yield table, table
        yield table, renumbered(source, table)
        yield table, swollen(source, table, 2)
        yield swollen(source, table, 2), renumbered(source, swollen(source, table, 2))
        at = source.randrange(len(goes))
        kind = source.choice([-1, 0, 1, 2])
        yield table, (tongue, goes, kinds[:at] + (kind if at else -1,) + kinds[at + 1:])
        others = [each for each in small_tables(20, seed + source.randrange(99), most=most) if each[0] == tongue]
        yield table, others[0]


class PartedTest(unittest.TestCase):
    def test_by_hand(self):
        for one, other, word in [
            (STILL, STILL, None), (STILL, TURNS, "a"), (TURNS, STILL, "a"), (TURNS, FOUR, None), (FOUR, TURNS, None),
            (table_of(book(A)), table_of(book(A, B)), "b"), (table_of(book(A)), table_of(book(B, A)), "a"),
            (table_of(book(A)), table_of(book(A, times(A, 1, 3))), "aa"),
            (table_of(book(many(AB))), table_of(book(times(AB, 0, 4))), "aaaaa"),
            (table_of(book(many(AB))), table_of(book(many(row(many(A), many(B))))), None),
            (table_of(book(row(A, many(B)))), table_of(book(row(A, many(row(B, B))))), "ab"),
        ]:
            self.assertEqual(parted(one, other), word)

    def test_another_signs_go(self):
        tongue, goes, kinds = table_of(book(row(A, B, A)))
        self.assertEqual(goes, ((1, 2), (2, 3), (2, 2), (4, 2), (2, 2)))
        other = (tongue, ((1, 2), (2, 3), (2, 2), (4, 4), (2, 2)), kinds)
        self.assertEqual(parted((tongue, goes, kinds), other), "abb")
        self.assertIs(pairs((tongue, goes, kinds), other), None)

    def test_the_order_of_the_tongue(self):
        for tongue, word in [("ab", "ab"), ("ba", "ba")]:
            one = table_of(book(many(A), many(B), tongue=tongue))
            other = table_of(book(many(A), many(B), times(AB, 2, 2), tongue=tongue))
            self.assertEqual(parted(one, other), word)

    def test_some_tables(self):
        found = set()
        for one, other in two_tables(200, seed=211):
            word = plain_parted(one, other)
            self.assertEqual(parted(one, other), word, (one, other))
            self.assertEqual(parted(other, one), word)
            found.add(word)
        self.assertTrue({None, "a", "b", "aa", "ab", "ba", "bb", "aaaa"} <= found, found)

    def test_the_least_text_that_they_cut_otherwise(self):
        for one, other in two_tables(60, seed=212):
            word = parted(one, other)
            texts = words_upto(one[0], 5)
            unlike = [text for text in texts if plain_cut(one, text) != plain_cut(other, text)]
            self.assertEqual(unlike[:1], [] if word not in texts else [word])

    def test_long_words(self):
        # One has a kind every 31st sign, the other every 32nd.
        short = ("a", tuple(((room + 1) % 31,) for room in range(31)), (-1,) * 30 + (0,))
        self.assertEqual(parted(FARTHEST, FARTHEST), None)
        self.assertEqual(parted(short, ("a", ((0,),), (-1,))), "a" * 30)
        long = ("a", tuple(((room + 1) % 32,) for room in range(32)), (-1,) * 30 + (0, -1))
        self.assertEqual(parted(short, long), "a" * 61)

    def test_thirty_two_rooms(self):
        source = random.Random(213)
        table = table_of(THIRTY_TWO)
        other = renumbered(source, table)
        self.assertIs(parted(table, other), None)
        self.assertEqual(len(pairs(table, other)), 32)
        self.assertIs(pairs_hold(table, other, pairs(table, other)), True)
        tongue, goes, kinds = other
        rooms = [room for room in range(1, 32) if kinds[room] == -1]
        self.assertIsNot(parted(table, (tongue, goes, kinds[:rooms[5]] + (0,) + kinds[rooms[5] + 1:])), None)


class PairsTest(unittest.TestCase):
    def test_by_hand(self):
        self.assertEqual(pairs(STILL, STILL), ((0, 0),))
        self.assertEqual(pairs(TURNS, TURNS), ((0, 0), (1, 1)))
        self.assertEqual(pairs(TURNS, FOUR), ((0, 0), (0, 2), (1, 1), (1, 3)))
        self.assertEqual(pairs(FOUR, TURNS), ((0, 0), (1, 1), (2, 0), (3, 1)))
        self.assertIs(pairs(TURNS, STILL), None)

    def test_some_tables(self):
        told = 0
        for one, other in two_tables(120, seed=214):
            if plain_parted(one, other) is not None:
                self.assertIs(pairs(one, other), None)
                continue
            rows = pairs(one, other)
            self.assertEqual(rows, plain_pairs(one, other))
            self.assertEqual({type(pair) for pair in rows} | {type(rows)}, {tuple})
            self.assertIs(pairs_hold(one, other, rows), True)
            self.assertIs(pairs_hold(one, other, rows[::-1]), True)
            self.assertIs(pairs_hold(one, other, (rows * 2000)[:2000]), True)
            told += 1
        self.assertGreater(told, 300)

    def test_many_pairs(self):
        # Rooms that no word parts, so that all of them may stand by twos.
        source = random.Random(215)
        one = swollen(source, table_of(book(many(AB))), 16)
        other = swollen(source, one, 1)
        rows = pairs(one, other)
        self.assertEqual(rows, plain_pairs(one, other))
        self.assertIs(pairs_hold(one, other, rows), True)

    def test_nothing_is_changed(self):
        for call in (parted, pairs):
            is_kept(self, call, TURNS, FOUR)
            is_kept(self, call, TURNS, STILL)
        is_kept(self, pairs_hold, TURNS, FOUR, pairs(TURNS, FOUR))
        is_kept(self, pairs_hold, TURNS, FOUR, [[0, 0], {}])
        is_kept(self, bare, ("ab", ((1, 1), (0, 0)), (-1, 5)))


class HoldTest(unittest.TestCase):
    def test_a_pair_more_that_fits(self):
        # Rooms 1 and 2 are alike, but no word leads to room 1 in the one and to room 2 in the other.
        table = ("ab", ((1, 2), (1, 1), (2, 2)), (-1, 0, 0))
        told = ((0, 0), (1, 1), (2, 2))
        self.assertEqual(pairs(table, table), told)
        for more in [((1, 2), (1, 1)), ((2, 1),), ((1, 2), (2, 1))]:
            self.assertIs(pairs_hold(table, table, told + more), True)
        self.assertIs(pairs_hold(table, table, told + ((0, 1),)), False)
        self.assertIs(pairs_hold(table, table, ((2, 2), (1, 1), (0, 0), (1, 1))), True)
        # A pair more from which a sign leads to one that isn't there.
        self.assertIs(pairs_hold(FOUR, FOUR, pairs(FOUR, FOUR) + ((0, 2),)), False)
        self.assertIs(pairs_hold(FOUR, FOUR, pairs(FOUR, FOUR) + ((0, 2), (1, 3), (3, 1), (2, 0))), True)

    def test_changed_rows(self):
        good, bad = 0, 0
        for one, other in [(STILL, STILL), (TURNS, FOUR), (FOUR, FOUR), *two_tables(8, seed=216)]:
            for rows in changed(plain_pairs(one, other)):
                told = pairs_hold(one, other, rows)
                self.assertIs(told, plain_holds(one, other, rows), (one, other, repr(rows)[:200]))
                good += told
                bad += not told
        self.assertGreater(good, 20)
        self.assertGreater(bad, 1000)

    def test_changes_by_hand(self):
        told = pairs(TURNS, FOUR)
        for rows in [
            told[1:], told[:-1], told[:1], told[:2] + told[3:], (), list(told), (list(told[0]), *told[1:]),
            ((0, False), *told[1:]), ((False, False), *told[1:]), (*told[:2], (True, 1), told[3]),
            (*told, (0, 4)), (*told, (2, 0)), (*told, (-1, 0)), (*told, (0, 1)), (*told, (0, 0, 0)), (*told, (0,)),
            (*told, 0), (*told, None), (*told, EqualToAll()), (*told, (0, EqualToAll())), (*told, "00"), None,
            EqualToAll(), {(0, 0): 1}, (*told, (10 ** 999, 0)), (*told, ((0, 0), (0, 0))), "", (*told, ([], {})),
        ]:
            self.assertIs(pairs_hold(TURNS, FOUR, rows), False, rows)

    def test_where_they_cut_otherwise_nothing_holds(self):
        pairs_of_rooms = [(near, far) for near in range(2) for far in range(2)]
        other = ("ab", ((1, 1), (1, 0)), (-1, 0))
        for number in range(16):
            rows = tuple(pair for at, pair in enumerate(pairs_of_rooms) if number >> at & 1)
            self.assertIs(pairs_hold(TURNS, other, rows), False)

    def test_odd_things(self):
        for thing in odd_things():
            self.assertIs(pairs_hold(STILL, STILL, thing), False)
            self.assertIs(pairs_hold(STILL, STILL, ((0, 0), thing)), False)
            self.assertIs(pairs_hold(STILL, STILL, ((0, 0), (0, thing))), repr(thing) == "0")
            self.assertIs(pairs_hold(STILL, STILL, ((thing, 0),)), repr(thing) == "0")


class UnlikeTest(unittest.TestCase):
    def test_unlike_tongues(self):
        for one, other in [
            (TURNS, ("ba", ((1, 1), (0, 0)), (-1, 0))), (("ba", ((0, 0),), (-1,)), STILL),
            (STILL, ("a", ((0,),), (-1,))), (STILL, ("abc", ((0, 0, 0),), (-1,))), (STILL, ("cd", ((0, 0),), (-1,))),
        ]:
            for call in [lambda: parted(one, other), lambda: pairs(one, other),
                         lambda: pairs_hold(one, other, ((0, 0),)),
                         lambda: pairs_hold(one, other, None), lambda: pairs_hold(one, other, [EqualToAll()])]:
                with self.assertRaises(Unlike):
                    call()


class BareTest(unittest.TestCase):
    def test_by_hand(self):
        self.assertEqual(bare(STILL), STILL)
        self.assertEqual(bare(TURNS), TURNS)
        self.assertEqual(bare(("ab", ((1, 2), (0, 0), (3, 3), (0, 3)), (-1, 5, -1, 1))),
                         ("ab", ((1, 2), (0, 0), (3, 3), (0, 3)), (-1, 0, -1, 0)))

    def test_cut_at_the_same_places(self):
        alike, unlike = 0, 0
        for one, other in two_tables(100, seed=217):
            for table in (one, other):
                self.assertIs(is_table(bare(table)), True)
                for text in words_upto(table[0], 4):
                    pieces, place = cut(table, text)
                    self.assertEqual(cut(bare(table), text), ([(0, start, end) for kind, start, end in pieces], place))
            if parted(bare(one), bare(other)) is None:
                places = [[[piece[1:] for piece in cut(each, text)[0]] for text in words_upto(one[0], 5)]
                          for each in (one, other)]
                self.assertEqual(places[0], places[1])
                alike += parted(one, other) is not None
            else:
                unlike += 1
        self.assertGreater(alike, 5)
        self.assertGreater(unlike, 20)

    def test_rooms_stay(self):
        table = table_of(book(A, B))
        self.assertTrue(is_least(table))
        self.assertEqual(len(bare(table)[1]), len(table[1]))
        self.assertLess(len(least_of(bare(table))[1]), len(table[1]))
        for each in grown_tables(20, seed=218):
            self.assertEqual(bare(each)[:2], each[:2])
