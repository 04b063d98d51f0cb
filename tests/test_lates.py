import unittest

from nearreach.lates import late_holds, late_pair
from nearreach.making import table_of
from nearreach.reaches import reach
from tests.helpers import (
    ENDLESS, FARTHEST, EqualToAll, book, is_kept, many, odd_things, one, plain_first, replacements, row, small_tables,
    words_upto,
)

A, B = one("a"), one("b")
STILL = ("ab", ((1, 0), (0, 1)), (-1, -1))
SOME = table_of(book(A, row(A, B, A, B), B))


def plain_late(table, number, one, other):
    for text in (one, other):
        if type(text) is not str or not set(text) <= set(table[0]):
            return False
    found = plain_first(table, one, 0)
    if found is None:
        return False
    seen = found[1] + number
    return list(one)[:seen] == list(other)[:seen] and plain_first(table, other, 0) != found


class LateTest(unittest.TestCase):
    def test_each_number_below_the_reach(self):
        found = set()
        for table in small_tables(200, seed=111) + [SOME, ENDLESS, STILL, FARTHEST]:
            told = reach(table)
            for number in [*range(10), 31, 32, 33, 59, 60]:
                pair = late_pair(table, number)
                if told is not None and number >= told:
                    self.assertIs(pair, None, (table, number))
                    continue
                self.assertIs(type(pair), tuple)
                self.assertTrue(plain_late(table, number, *pair), (table, number, pair))
                self.assertIs(late_holds(table, number, *pair), True)
                self.assertLessEqual(max(map(len, pair)), 240)
                found.add((told, number))
        self.assertTrue({(1, 0), (3, 0), (3, 1), (3, 2), (None, 0), (None, 60), (32, 31)} <= found, found)

    def test_by_hand(self):
        for number in range(3):
            one, other = late_pair(SOME, number)
            self.assertEqual((plain_first(SOME, one, 0), plain_first(SOME, other, 0)), ((0, 1), (1, 4)))
        self.assertIs(late_pair(SOME, 3), None)
        self.assertIs(late_pair(STILL, 0), None)
        self.assertIs(late_pair(table_of(book(A)), 0), None)
        self.assertIsNot(late_pair(ENDLESS, 60), None)

    def test_the_longest_ones(self):
        # A round that is long itself, and a long way to it.
        chain = tuple((room + 1,) * 2 for room in range(29))
        table = ("ab", (*chain, (1, 30), (31, 30), (30, 30)), (-1, 0) + (-1,) * 29 + (1,))
        self.assertIs(reach(table), None)
        for number in range(61):
            self.assertTrue(plain_late(table, number, *late_pair(table, number)))

    def test_nothing_is_changed(self):
        for table in small_tables(20, seed=112):
            before = repr(table)
            late_pair(table, 2)
            self.assertEqual(repr(table), before)
        is_kept(self, late_holds, SOME, 2, ["a"], {})
        is_kept(self, late_holds, SOME, 2, "aba", "abab")


class HoldTest(unittest.TestCase):
    def test_by_hand(self):
        for number, one, other, told in [
            (0, "a", "abab", True), (1, "a", "abab", False), (1, "ab", "abab", True), (2, "aba", "abab", True),
            (2, "abaa", "abab", True), (3, "aba", "abab", False), (3, "abaa", "abab", False),
            (0, "abab", "a", False), (0, "abab", "aba", False), (0, "a", "a", False), (0, "a", "b", False),
            (0, "", "a", False), (0, "", "", False), (0, "ba", "bb", False), (2, "abaaaaa", "ababbbb", True),
            (60, "a", "abab", False), (60, "aba", "abab", False), (1, "a", "ab", False), (0, "ab", "abab", True),
        ]:
            self.assertIs(late_holds(SOME, number, one, other), told, (number, one, other))
            self.assertIs(plain_late(SOME, number, one, other), told)

    def test_a_text_that_is_shorter(self):
        # The one text ends ahead of the signs that are to be the same, so the other must end there too.
        self.assertIs(late_holds(ENDLESS, 5, "abb", "abbbbbbbbc"), False)
        self.assertIs(late_holds(ENDLESS, 2, "abb", "abbbbbbbbc"), True)
        self.assertIs(late_holds(ENDLESS, 3, "abb", "abbc"), False)
        self.assertIs(late_holds(ENDLESS, 3, "abbb", "abb"), False)
        self.assertIs(late_holds(ENDLESS, 9, "abb", "abb"), False)

    def test_the_second_may_have_no_longer_piece_but_must_have_another(self):
        self.assertIs(late_holds(ENDLESS, 0, "abbc", "abbcb"), False)
        self.assertIs(late_holds(ENDLESS, 0, "abbb", "acb"), False)

    def test_all_short_texts(self):
        good = 0
        for table in small_tables(20, seed=113, most=3) + [SOME]:
            texts = words_upto(table[0], 4)
            for number in (0, 1, 2, 5):
                for one in texts:
                    for other in texts:
                        told = plain_late(table, number, one, other)
                        if late_holds(table, number, one, other) is not told:
                            self.fail((table, number, one, other))
                        good += told
        self.assertGreater(good, 100)

    def test_changed_texts(self):
        good = 0
        for table in small_tables(40, seed=114) + [SOME, ENDLESS]:
            for number in (0, 2):
                pair = late_pair(table, number)
                if pair is None:
                    continue
                one, other = pair
                for each in [*replacements(one), *replacements(other), one * 2, "b" + one]:
                    for pair in [(each, other), (one, each)]:
                        told = plain_late(table, number, *pair)
                        self.assertIs(late_holds(table, number, *pair), told)
                        good += told
        self.assertGreater(good, 20)

    def test_long_texts(self):
        long = "a" + "b" * 998
        self.assertIs(late_holds(ENDLESS, 60, long, long + "c"), True)
        self.assertIs(late_holds(ENDLESS, 60, long, "a" + "b" * 60 + "c"), True)
        self.assertIs(late_holds(ENDLESS, 60, long, "a" + "b" * 59 + "c"), False)

    def test_odd_things(self):
        for thing in odd_things():
            self.assertIs(late_holds(SOME, 2, "aba", thing), False)
            self.assertIs(late_holds(SOME, 2, thing, "abab"), False)
            self.assertIs(late_holds(SOME, 0, thing, thing), False)
        for one, other in [(("a", "b", "a"), "abab"), ("aba", list("abab")), ("aba", b"abab"), ("aba", EqualToAll()),
                           (EqualToAll(), "abab"), ("abac", "abab"), ("aba", "ababc"), (None, None)]:
            self.assertIs(late_holds(SOME, 2, one, other), False)
