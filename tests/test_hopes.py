import unittest

from nearreach.hopes import hope_words, hopes, hopes_hold
from tests.helpers import EqualToAll, changed, is_kept, odd_things, some_tables, walk, words_upto


def plain_hope(table, room):
    """The least word by trying all in their order; one that leads anywhere needs no more signs than there are rooms."""
    for word in words_upto(table[0], len(table[1]))[1:]:
        if table[2][walk(table, room, word)] != -1:
            return word
    return None


def plain_holds(table, words):
    """Each told word leads to a kind, and where None is told trying finds no word."""
    if type(words) is not tuple or len(words) != len(table[1]):
        return False
    for room, word in enumerate(words):
        if word is None:
            good = plain_hope(table, room) is None
        else:
            good = type(word) is str and word != "" and set(word) <= set(table[0])
            good = good and table[2][walk(table, room, word)] != -1
        if not good:
            return False
    return True


# Behind ab there is a kind, and from the last room nothing leads on.
LINE = ("ba", ((3, 1), (2, 3), (3, 3), (3, 3)), (-1, -1, 4, -1))
# The signs' order in the tongue tells the least word, not Python's.
FORK = ("ba", ((1, 1), (1, 1)), (-1, 0))
# A room with a kind that has itself behind one sign, and one that has none behind any.
ROUND = ("a", ((1,), (0,)), (-1, 0))


class HopeTest(unittest.TestCase):
    def test_hope_words(self):
        self.assertEqual(hope_words(LINE), ("ab", "b", None, None))
        self.assertEqual(hope_words(FORK), ("b", "b"))
        self.assertEqual(hopes(LINE), (True, True, False, False))

    def test_one_sign_or_more_also_where_the_room_has_a_kind(self):
        self.assertEqual(hope_words(ROUND), ("a", "aa"))
        self.assertEqual(hope_words(("ab", ((1, 0), (2, 2), (2, 2)), (-1, 3, -1))), ("a", None, None))

    def test_a_shorter_word_goes_ahead_of_an_earlier_sign(self):
        table = ("ab", ((1, 2), (2, 1), (0, 1)), (-1, -1, 0))
        self.assertEqual(hope_words(table), ("b", "a", "ab"))

    def test_no_hope_at_all(self):
        self.assertEqual(hope_words(("ab", ((0, 0),), (-1,))), (None,))
        self.assertEqual(hopes(("ab", ((1, 0), (0, 1)), (-1, -1))), (False, False))

    def test_thirty_two_rooms(self):
        goes = tuple((min(room + 1, 31), 0) for room in range(32))
        table = ("ab", goes, (-1,) * 31 + (5,))
        self.assertEqual(hope_words(table), tuple("a" * max(31 - room, 1) for room in range(32)))
        self.assertIs(hopes_hold(table, hope_words(table)), True)

    def test_some_tables(self):
        found = set()
        for table in some_tables(300, seed=3):
            told = tuple(plain_hope(table, room) for room in range(len(table[1])))
            self.assertEqual(hope_words(table), told, table)
            self.assertEqual(hopes(table), tuple(word is not None for word in told))
            found |= set(told)
        self.assertTrue({None, "a", "aa", "ba", "bb"} <= found)

    def test_nothing_is_changed(self):
        for table in some_tables(10):
            is_kept(self, hope_words, table)
            is_kept(self, hopes, table)
            is_kept(self, hopes_hold, table, ["a", [None]])


class HoldTest(unittest.TestCase):
    def test_told_words_hold(self):
        for table in some_tables(200, seed=4):
            self.assertIs(hopes_hold(table, hope_words(table)), True)

    def test_other_words_that_lead_to_a_kind(self):
        self.assertIs(hopes_hold(FORK, ("aabbab", "a")), True)
        self.assertIs(hopes_hold(ROUND, ("aaa", "a" * 240)), True)
        self.assertIs(hopes_hold(ROUND, ("a" * 999, "a" * 1000)), True)
        self.assertIs(hopes_hold(ROUND, ("aa", "aa")), False)

    def test_none_where_there_is_hope(self):
        self.assertIs(hopes_hold(LINE, ("ab", None, None, None)), False)
        self.assertIs(hopes_hold(LINE, (None, "b", None, None)), False)
        self.assertIs(hopes_hold(LINE, (None,) * 4), False)
        self.assertIs(hopes_hold(ROUND, (None, None)), False)

    def test_a_word_where_there_is_none(self):
        self.assertIs(hopes_hold(LINE, ("ab", "b", "a", None)), False)
        self.assertIs(hopes_hold(LINE, ("ab", "b", None, "b")), False)
        # The word without signs leads to a kind here, but has no sign.
        self.assertIs(hopes_hold(LINE, ("ab", "b", "", None)), False)

    def test_changed_words(self):
        good = 0
        for table in some_tables(60, seed=5) + [LINE, FORK, ROUND]:
            for words in changed(hope_words(table)):
                self.assertIs(hopes_hold(table, words), plain_holds(table, words), (table, repr(words)[:200]))
                good += hopes_hold(table, words)
        self.assertGreater(good, 5)

    def test_odd_things(self):
        for thing in odd_things():
            self.assertIs(hopes_hold(LINE, thing), False)
            self.assertIs(hopes_hold(LINE, ("ab", thing, None, None)), False)
            self.assertIs(hopes_hold(LINE, ("ab", "b", None, thing)), thing is None)
        for words in (["ab", "b", None, None], ("ab", "b", None), ("ab", "b", None, None, None), ("c", "b", None, None),
                      (("a", "b"), "b", None, None), (["a", "b"], "b", None, None), (EqualToAll(), "b", None, None)):
            self.assertIs(hopes_hold(LINE, words), False)
