import random
import unittest

from nearreach.besides import beside, followers, followers_hold
from nearreach.making import table_of
from tests.helpers import (
    ENDLESS, FARTHEST, THIRTY_TWO, EqualToAll, book, changed, grown_tables, is_kept, many, odd_things, one, plain_cut,
    row, small_tables, swollen, walk, words_upto,
)

A, B, C, AB = one("a"), one("b"), one("c"), one("ab")
STILL = ("ab", ((1, 0), (0, 1)), (-1, -1))
# a as often as one likes, b, and aab.
SOME = table_of(book(row(A, many(A)), B, row(A, A, B)))


def plain_beside(table, one, other, longest):
    """By trying all short texts in their order."""
    for text in words_upto(table[0], longest):
        pieces, place = plain_cut(table, text)
        if [kind for kind, start, end in pieces] == [one, other] and place == len(text):
            return text
    return None


def plain_followers(table, kind):
    """By the point's own words, for tables so small that all words that matter are short."""
    tongue, goes, kinds = table
    rooms = len(goes)
    found = set()
    for u in words_upto(tongue, rooms):
        if kinds[walk(table, 0, u)] != kind:
            continue
        for v in words_upto(tongue, rooms * rooms)[1:]:
            if all(kinds[walk(table, 0, u + v[:end])] == -1 for end in range(1, len(v) + 1)):
                found.add((walk(table, 0, u + v), walk(table, 0, v)))
    return tuple(sorted(found))


def plain_holds(table, kind, rows):
    tongue, goes, kinds = table
    texts = {repr((one, other)) for one in range(len(goes)) for other in range(len(goes))}
    if type(rows) is not tuple or not all(repr(pair) in texts for pair in rows):
        return False
    starts = [(room, 0) for room in range(len(goes)) if kinds[room] == kind]
    for one, other in [*rows, *starts]:
        for near, far in zip(goes[one], goes[other]):
            if kinds[near] == -1 and (near, far) not in rows:
                return False
    return True


class BesideTest(unittest.TestCase):
    def test_by_hand(self):
        for table, one, other, text in [
            (SOME, 0, 1, "ab"), (SOME, 1, 0, "ba"), (SOME, 0, 0, None), (SOME, 1, 1, "bb"), (SOME, 2, 2, "aabaab"),
            (SOME, 2, 0, "aaba"), (SOME, 0, 2, None), (SOME, 1, 2, "baab"), (SOME, 2, 1, "aabb"), (SOME, 3, 0, None),
            (SOME, 0, 5, None), (STILL, 0, 0, None), (table_of(book(A)), 0, 0, "aa"),
            (table_of(book(many(A))), 0, 0, None), (table_of(book(AB, tongue="ba")), 0, 0, "bb"),
            (table_of(book(A, row(A, B), B)), 0, 2, None), (table_of(book(A, row(A, B), B)), 2, 1, "bab"),
            # The first piece of this kind is there only where a longer one isn't.
            (table_of(book(A, row(A, A))), 0, 0, None), (table_of(book(A, row(A, A))), 1, 0, "aaa"),
            (table_of(book(A, row(A, A))), 1, 1, "aaaa"), (table_of(book(A, row(A, A))), 0, 1, None),
            (table_of(book(A, row(A, B, A, B), B)), 0, 2, "ab"), (table_of(book(A, row(A, B, A), B)), 0, 0, "aa"),
        ]:
            self.assertEqual(beside(table, one, other), text, (one, other))

    def test_a_rest_that_goes_back_to_the_first_room(self):
        # Behind the a a b leads back to room 0, which has hope.
        table = ("ab", ((1, 0), (2, 0), (2, 2)), (-1, 0, -1))
        self.assertEqual(beside(table, 0, 0), plain_beside(table, 0, 0, 8))
        self.assertEqual(followers(table, 0), plain_followers(table, 0))

    def test_against_all_short_texts(self):
        found = set()
        for table in small_tables(150, seed=231) + [SOME, STILL]:
            size = 9 if len(table[0]) == 2 else 30
            for one in (0, 1, 2):
                for other in (0, 1, 2):
                    told = beside(table, one, other)
                    text = plain_beside(table, one, other, size)
                    if text is None and told is not None:
                        self.assertGreater(len(told), size)
                        pieces, place = plain_cut(table, told)
                        self.assertEqual(([kind for kind, start, end in pieces], place), ([one, other], len(told)))
                    else:
                        self.assertEqual(told, text, (table, one, other))
                    found.add(None if told is None else len(told))
        self.assertTrue({None, 2, 3, 4, 5} <= found, found)

    def test_the_order_of_the_tongue(self):
        source = random.Random(232)
        for _ in range(20):
            tongue = "".join(source.sample("abcdef", 6))
            table = table_of(book(one("abc"), one("fed"), tongue=tongue))
            first = [next(sign for sign in tongue if sign in signs) for signs in ("abc", "def")]
            self.assertEqual([beside(table, one, other) for one in (0, 1) for other in (0, 1)],
                             [first[one] + first[other] for one in (0, 1) for other in (0, 1)])

    def test_long_texts(self):
        self.assertEqual(beside(FARTHEST, 0, 0), "aa")
        chain = ("a", tuple((min(room + 1, 31),) for room in range(32)), (-1,) * 30 + (0, -1))
        self.assertEqual(beside(chain, 0, 0), "a" * 60)
        self.assertEqual(beside(table_of(THIRTY_TWO), 0, 0), None)

    def test_nothing_is_changed(self):
        is_kept(self, beside, SOME, 2, 1)
        is_kept(self, followers, SOME, 2)
        is_kept(self, followers_hold, SOME, 2, followers(SOME, 2))
        is_kept(self, followers_hold, SOME, 2, [[0, 0], {}])


class FollowersTest(unittest.TestCase):
    def test_by_hand(self):
        self.assertEqual(SOME, ("ab", ((1, 2), (3, 4), (4, 4), (5, 6), (4, 4), (5, 4), (4, 4)),
                                (-1, 0, 1, 0, -1, 0, 2)))
        self.assertEqual(followers(SOME, 0), ((4, 2), (4, 4)))
        self.assertEqual(followers(SOME, 1), ((4, 1), (4, 2), (4, 3), (4, 4), (4, 5), (4, 6)))
        self.assertEqual(followers(SOME, 3), ())
        self.assertEqual(followers(STILL, 0), ())
        self.assertEqual(followers(table_of(book(many(A), tongue="a")), 0), ())
        told = followers(SOME, 1)
        self.assertEqual({type(told)} | {type(pair) for pair in told}, {tuple})

    def test_against_the_points_own_words(self):
        sizes = set()
        for table in small_tables(120, seed=233, most=3):
            for kind in (0, 1, 5):
                told = followers(table, kind)
                self.assertEqual(told, plain_followers(table, kind), (table, kind))
                self.assertIs(followers_hold(table, kind, told), True)
                sizes.add(len(told))
        self.assertTrue({0, 1, 2, 3} <= sizes, sizes)

    def test_no_neighbours_text_where_no_second_room_has_the_kind(self):
        none, some = 0, 0
        for table in grown_tables(200, seed=234, kinds=(-1, -1, 0, 1)):
            for one in (0, 1):
                rooms = {table[2][other] for near, other in followers(table, one)}
                for other in (0, 1):
                    self.assertIs(beside(table, one, other) is not None, other in rooms, (table, one, other))
                    none += other not in rooms
                    some += other in rooms
        self.assertGreater(min(none, some), 100)


class HoldTest(unittest.TestCase):
    def test_another_order_and_twice(self):
        for table in grown_tables(60, seed=235, kinds=(-1, -1, 0, 1)) + [SOME, ENDLESS, FARTHEST]:
            for kind in (0, 1):
                told = followers(table, kind)
                self.assertIs(followers_hold(table, kind, told[::-1]), True)
                self.assertIs(followers_hold(table, kind, (told * 2000)[:2000]), True)

    def test_more_pairs(self):
        source = random.Random(236)
        for table in grown_tables(60, seed=236, most=5, kinds=(-1, -1, 0, 1)):
            rooms = range(len(table[1]))
            every = [(one, other) for one in rooms for other in rooms]
            for kind in (0, 1):
                # All pairs are always enough, also those whose first room has a kind.
                self.assertIs(followers_hold(table, kind, tuple(every)), True)
                told = followers(table, kind)
                for _ in range(6):
                    more = told + tuple(source.sample(every, source.randint(0, min(4, len(every)))))
                    self.assertIs(followers_hold(table, kind, more), plain_holds(table, kind, more))

    def test_fewer_pairs_never_hold(self):
        for table in grown_tables(60, seed=237, kinds=(-1, -1, 0, 1)):
            told = followers(table, 0)
            for at in range(len(told)):
                self.assertIs(followers_hold(table, 0, told[:at] + told[at + 1:]), False)

    def test_a_kind_that_no_room_has(self):
        self.assertIs(followers_hold(SOME, 3, ()), True)
        self.assertIs(followers_hold(SOME, 3, ((4, 4),)), True)
        self.assertIs(followers_hold(SOME, 3, ((4, 0),)), False)
        self.assertIs(followers_hold(SOME, 1, ()), False)

    def test_changed_rows(self):
        good, bad = 0, 0
        for table in small_tables(40, seed=238, most=3) + [SOME]:
            for kind in (0, 1):
                for rows in changed(followers(table, kind)):
                    told = followers_hold(table, kind, rows)
                    self.assertIs(told, plain_holds(table, kind, rows), (table, kind, repr(rows)[:200]))
                    good += told
                    bad += not told
        self.assertGreater(good, 20)
        self.assertGreater(bad, 500)

    def test_changes_by_hand(self):
        told = followers(SOME, 0)
        self.assertEqual(told, ((4, 2), (4, 4)))
        for rows in [
            list(told), [[4, 2], [4, 4]], ([4, 2], (4, 4)), ((4, 2),), ((4, 4),), (), None, ((4, 2), (4, 4), (4, 7)),
            ((4, 2), (4, 4), (7, 4)), ((4, 2), (4, 4), (-1, 4)), ((4, 2), (4, 4), 4), ((4, 2), (4, 4), (4,)),
            ((4, 2), (4, 4), (4, 4, 4)), ((4, 2), (4, 4), None), ((4, 2), (4, 4), EqualToAll()),
            ((4, 2), (4, 4), (4, EqualToAll())), ((4, 2), (4, 4), (4, True)), ((4, 2), (4, 4), (True, 2)),
            ((4, 2), (4, 4), "42"), ((4, 2), (4, 4), (4, 1)), ((4, 2), (4, 4), (10 ** 999, 1)), EqualToAll(),
            ((4, 2), (4, 4), ((4, 2),)), ((4, 2), (4, 4), ([], {})),
        ]:
            self.assertIs(followers_hold(SOME, 0, rows), False, rows)
        self.assertIs(followers_hold(SOME, 0, ((4, 4), (4, 2), (5, 4))), True)

    def test_odd_things(self):
        for thing in odd_things():
            self.assertIs(followers_hold(STILL, 0, thing), repr(thing) == "()")
            self.assertIs(followers_hold(SOME, 0, ((4, 2), (4, 4), thing)), False)
            self.assertIs(followers_hold(SOME, 0, ((4, 2), (4, thing), (4, 4))), repr(thing) in ("2", "6"))

    def test_a_great_paper(self):
        source = random.Random(239)
        table = swollen(source, table_of(book(A, row(A, B), C, tongue="abc")), 5)
        rooms = range(len(table[1]))
        every = tuple((one, other) for one in rooms for other in rooms)
        self.assertIs(followers_hold(table, 0, (every * 3)[:2000]), True)
        self.assertIs(followers_hold(table, 0, followers(table, 0)), True)
