import unittest

from nearreach.making import table_of
from nearreach.reaches import reach
from nearreach.steps import needing, needing_holds, rounds, rounds_hold
from tests.helpers import (
    ENDLESS, FARTHEST, EqualToAll, book, is_kept, many, odd_things, one, replacements, row, small_tables, walk,
    words_upto,
)

A, B = one("a"), one("b")
STILL = ("ab", ((1, 0), (0, 1)), (-1, -1))
SOME = table_of(book(A, row(A, B, A, B), B))
# Words of an a with any count of b and a behind them in turn.
TURNS = table_of(book(row(A, many(row(B, A)))))
# One sign more brings a kind each time.
WHOLE = ("ab", ((1, 1), (1, 1)), (-1, 0))


def is_word(table, thing, least=0):
    return type(thing) is str and set(thing) <= set(table[0]) and len(thing) >= least


def has_kind(table, word):
    return table[2][walk(table, 0, word)] != -1


def plain_step(table, u, z):
    """Whether u and z are a step, by a look at each beginning."""
    if not (is_word(table, u) and is_word(table, z, 1) and has_kind(table, u) and has_kind(table, u + z)):
        return False
    return not any(has_kind(table, (u + z)[:end]) for end in range(len(u) + 1, len(u + z)))


def plain_round(table, u, y, c, x):
    if not all(is_word(table, each, 1) for each in (u, y, c, x)):
        return False
    return plain_step(table, u, y + c + x) and walk(table, 0, u + y) == walk(table, 0, u + y + c)


def changed_words(words):
    """Every row of words that comes of a change of one of them."""
    for at, word in enumerate(words):
        others = [*replacements(word), word[1:], word + word, "a" + word, word + "b", word[:1], "c" + word]
        for other in others:
            if repr(other) != repr(word):
                yield words[:at] + (other,) + words[at + 1:]


class NeedingTest(unittest.TestCase):
    def test_by_hand(self):
        self.assertEqual(needing(SOME), ("a", "bab"))
        self.assertIs(needing(STILL), None)
        self.assertIs(needing(table_of(book(A))), None)
        self.assertIs(needing(ENDLESS), None)
        u, z = needing(FARTHEST)
        self.assertEqual((len(u) % 32, z), (1, "a" * 32))
        self.assertEqual(len(needing(table_of(book(A, row(A, row(*[A] * 4), row(*[B] * 4)))))[1]), 8)

    def test_some_tables(self):
        found = set()
        for table in small_tables(300, seed=101):
            told, number = needing(table), reach(table)
            found.add(number)
            if not number:
                self.assertIs(told, None, table)
                continue
            self.assertIs(type(told), tuple)
            u, z = told
            self.assertTrue(plain_step(table, u, z), table)
            self.assertEqual(len(z), number)
            for other in range(number + 3):
                self.assertIs(needing_holds(table, other, u, z), other == number)
        self.assertTrue({0, 1, 2, 3, 4, None} <= found)

    def test_holds_for_all_short_words(self):
        good = 0
        for table in small_tables(15, seed=102, most=3) + [SOME, WHOLE, TURNS, STILL]:
            words = words_upto(table[0], 4)
            for u in words:
                for z in words:
                    told = plain_step(table, u, z)
                    self.assertIs(needing_holds(table, len(z), u, z), told, (table, u, z))
                    self.assertIs(needing_holds(table, len(z) + 1, u, z), False)
                    self.assertIs(len(z) > 0 and needing_holds(table, len(z) - 1, u, z), False)
                    good += told
        self.assertGreater(good, 100)

    def test_one_sign_more_or_less_and_a_kind_between(self):
        self.assertIs(needing_holds(SOME, 3, "a", "bab"), True)
        for number, u, z in [(3, "a", "baba"), (4, "a", "baba"), (2, "a", "ba"), (3, "a", "ba"), (2, "ab", "ab"),
                             (3, "", "bab"), (4, "", "abab"), (0, "a", ""), (0, "abab", ""), (3, "a", "bac"),
                             (1, "", "a"), (3, "b", "bab")]:
            self.assertIs(needing_holds(SOME, number, u, z), False, (number, u, z))
        self.assertIs(needing_holds(WHOLE, 1, "a", "b"), True)
        self.assertIs(needing_holds(WHOLE, 2, "a", "bb"), False)
        self.assertIs(needing_holds(TURNS, 2, "aba", "ba"), True)
        self.assertIs(needing_holds(TURNS, 4, "a", "baba"), False)

    def test_long_words(self):
        self.assertIs(needing_holds(WHOLE, 1, "a" * 1000, "b"), True)
        self.assertIs(needing_holds(TURNS, 2, "a" + "ba" * 499, "ba"), True)
        self.assertIs(needing_holds(ENDLESS, 1000, "a", "b" * 999 + "c"), True)
        self.assertIs(needing_holds(ENDLESS, 999, "a", "b" * 999 + "c"), False)
        self.assertIs(needing_holds(ENDLESS, 1000, "a", "b" * 1000), False)
        self.assertIs(needing_holds(FARTHEST, 32, "a" * 993, "a" * 32), True)

    def test_changed_words(self):
        good = 0
        for table in small_tables(60, seed=103) + [SOME, TURNS]:
            if needing(table) is None:
                continue
            for u, z in changed_words(needing(table)):
                told = plain_step(table, u, z) and len(z) == reach(table)
                self.assertIs(needing_holds(table, reach(table), u, z), told, (table, u, z))
                good += told
        self.assertGreater(good, 20)

    def test_odd_things(self):
        for thing in odd_things():
            self.assertIs(needing_holds(SOME, 3, thing, "bab"), False)
            self.assertIs(needing_holds(SOME, 3, "a", thing), False)
            self.assertIs(needing_holds(SOME, 0, "a", thing), False)
        for u, z in [("a", ("b", "a", "b")), ("a", ["b", "a", "b"]), (("a",), "bab"), (b"a", "bab"), ("a", b"bab"),
                     (EqualToAll(), "bab"), ("a", EqualToAll()), ("a", None), (None, None)]:
            self.assertIs(needing_holds(SOME, 3, u, z), False)

    def test_nothing_is_changed(self):
        is_kept(self, needing_holds, SOME, 3, ["a"], ["b"])
        is_kept(self, rounds_hold, ENDLESS, ["a"], ["b"], {}, "c")
        for table in small_tables(20, seed=104):
            before = repr(table)
            needing(table)
            rounds(table)
            self.assertEqual(repr(table), before)


class RoundTest(unittest.TestCase):
    def test_by_hand(self):
        self.assertEqual(rounds(ENDLESS), ("a", "b", "b", "c"))
        for table in [STILL, SOME, TURNS, FARTHEST, WHOLE, ("ab", ((1, 2), (2, 2), (2, 2)), (-1, 0, -1))]:
            self.assertIs(rounds(table), None)

    def test_a_round_with_four_longer_words(self):
        # The word aa; and those with b, then aba any times, then ba behind it.
        table = table_of(book(row(A, A), row(A, A, B, many(row(A, B, A)), B, A)))
        told = rounds(table)
        self.assertTrue(plain_round(table, *told))
        self.assertEqual(len(told[2]) % 3, 0)

    def test_some_tables(self):
        none, lengths = 0, set()
        for table in small_tables(300, seed=105, most=5):
            told = rounds(table)
            self.assertIs(told is None, reach(table) is not None, table)
            if told is None:
                none += 1
                continue
            self.assertIs(type(told), tuple)
            self.assertTrue(plain_round(table, *told), (table, told))
            self.assertIs(rounds_hold(table, *told), True)
            lengths |= {(at, len(word)) for at, word in enumerate(told)}
            u, y, c, x = told
            for times in range(4):
                self.assertTrue(plain_step(table, u, y + c * times + x))
        self.assertTrue(30 < none < 270)
        self.assertTrue({(at, length) for at in range(4) for length in (1, 2)} <= lengths, lengths)

    def test_holds_for_all_short_words(self):
        good = 0
        for table in [ENDLESS, WHOLE, *small_tables(20, seed=106, most=3)]:
            words = words_upto(table[0], 2)
            for u in words:
                for y in words:
                    for c in words:
                        for x in words:
                            told = plain_round(table, u, y, c, x)
                            if rounds_hold(table, u, y, c, x) is not told:
                                self.fail((table, u, y, c, x))
                            good += told
        self.assertGreater(good, 50)

    def test_changes_by_hand(self):
        for words in [("a", "b", "b", "c"), ("a", "bb", "bbb", "bc"), ("a", "b", "b" * 997, "c"),
                      ("a", "b" * 1000, "b" * 1000, "b" * 999 + "c")]:
            self.assertIs(rounds_hold(ENDLESS, *words), True)
        for words in [("", "b", "b", "c"), ("a", "", "b", "c"), ("a", "b", "", "c"), ("a", "b", "b", ""),
                      ("a", "b", "b", "cc"), ("a", "b", "c", "c"), ("a", "a", "b", "c"), ("b", "b", "b", "c"),
                      ("ab", "b", "b", "c"), ("a", "b", "b", "b"), ("abc", "b", "b", "c"), ("a", "c", "b", "c"),
                      ("a", "b", "b", "d"), ("a", "b", "b", None), (("a",), "b", "b", "c"), ("a", ["b"], "b", "c")]:
            self.assertIs(rounds_hold(ENDLESS, *words), False, words)
        # Each goes round, but there is a kind between.
        self.assertIs(rounds_hold(WHOLE, "a", "a", "a", "a"), False)
        self.assertIs(rounds_hold(FARTHEST, "a", "a", "a" * 32, "a" * 31), False)

    def test_a_round_that_does_not_lead_back(self):
        table = ("abc", ((1, 4, 4), (4, 2, 4), (4, 3, 5), (4, 3, 5), (4, 4, 4), (4, 4, 4)), (-1, 0, -1, -1, -1, 1))
        self.assertIs(rounds_hold(table, "a", "b", "b", "c"), False)
        self.assertIs(rounds_hold(table, "a", "bb", "b", "c"), True)

    def test_changed_words(self):
        good = 0
        for table in small_tables(60, seed=107) + [ENDLESS]:
            if rounds(table) is None:
                continue
            for words in changed_words(rounds(table)):
                told = plain_round(table, *words)
                self.assertIs(rounds_hold(table, *words), told, (table, words))
                good += told
        self.assertGreater(good, 20)

    def test_odd_things(self):
        for thing in odd_things():
            for at in range(4):
                words = ["a", "b", "b", "c"]
                words[at] = thing
                self.assertIs(rounds_hold(ENDLESS, *words), False)
        self.assertIs(rounds_hold(ENDLESS, EqualToAll(), "b", "b", "c"), False)
