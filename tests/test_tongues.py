import unittest

from nearreach.errors import NoWord
from nearreach.plain import is_number, is_sign
from nearreach.tongues import ahead, is_text, is_tongue, number_of, word_at
from tests.helpers import EqualToAll, is_kept, odd_things, words_upto

SIGNS = ["\n"] + [chr(code) for code in range(32, 127) if code != 37]


class PlainTest(unittest.TestCase):
    def test_numbers(self):
        for thing in (0, 1, -1, 10 ** 999):
            self.assertIs(is_number(thing), True)
        for thing in (True, False, None, "1", (1,), [1], EqualToAll()):
            self.assertIs(is_number(thing), False)

    def test_signs(self):
        self.assertEqual(len(SIGNS), 95)
        self.assertEqual([chr(code) for code in range(2000) if is_sign(chr(code))], SIGNS)
        for thing in ("", "ab", b"a", None, 10, ("a",), ["a"]):
            self.assertIs(is_sign(thing), False)


class TongueTest(unittest.TestCase):
    def test_tongues(self):
        for thing in ["a", "abcdef", "\n", "a\nb", "zyx", " ~"] + SIGNS:
            self.assertIs(is_tongue(thing), True, repr(thing))

    def test_each_sign_stands_in_a_tongue_of_six(self):
        for at in range(len(SIGNS) - 5):
            self.assertIs(is_tongue("".join(SIGNS[at:at + 6])), True)

    def test_no_tongues(self):
        spoilt = ["", "abcdefg", "aa", "abca", "\n\n", "%", "a%", "\t", "a\tb", "\r", "\x00", "\x7f", "\u00e9"]
        spoilt += [["a", "b"], ("a", "b"), ("a",), None, 1, True, False, {"a": 1}, {"a"}, b"ab"]
        for thing in spoilt:
            self.assertIs(is_tongue(thing), False, repr(thing))

    def test_odd_things_are_no_tongues(self):
        for thing in odd_things():
            self.assertIs(is_tongue(thing), False)

    def test_texts(self):
        for text in ("", "a", "b", "ab", "ba", "bbbbaaab", "a" * 1000):
            self.assertIs(is_text("ab", text), True)
        self.assertIs(is_text("a\n", "\na\n"), True)

    def test_no_texts(self):
        for text in ("c", "abc", "A", " ", "ab\n", "%"):
            self.assertIs(is_text("ab", text), False)
        for thing in odd_things():
            self.assertIs(is_text("ab", thing), thing == "" and isinstance(thing, str))
        for thing in (("a", "b"), ["a"], b"ab", {"a": 1}):
            self.assertIs(is_text("ab", thing), False)

    def test_nothing_is_changed(self):
        is_kept(self, is_tongue, ["a", ["b"]])
        is_kept(self, is_text, "ab", ["a", ["b"]])
        is_kept(self, is_tongue, "ab")
        is_kept(self, ahead, "ab", "a", "b")
        is_kept(self, number_of, "ab", "abba")
        is_kept(self, word_at, "ab", 100)


class OrderTest(unittest.TestCase):
    def test_the_shorter_one_is_ahead(self):
        self.assertIs(ahead("ab", "b", "aa"), True)
        self.assertIs(ahead("ab", "aa", "b"), False)
        self.assertIs(ahead("ab", "", "a"), True)
        self.assertIs(ahead("ab", "a", ""), False)

    def test_the_tongue_gives_the_order(self):
        self.assertIs(ahead("ba", "b", "a"), True)
        self.assertIs(ahead("ba", "a", "b"), False)
        self.assertIs(ahead("z\na", "zz\n", "z\nz"), True)
        self.assertIs(ahead("cab", "ca", "ac"), True)

    def test_no_word_is_ahead_of_itself(self):
        for word in ("", "a", "abab"):
            self.assertIs(ahead("ab", word, word), False)

    def test_long_words(self):
        self.assertIs(ahead("ab", "a" * 239 + "b", "a" * 240), False)
        self.assertIs(ahead("ab", "b" * 239, "a" * 240), True)

    def test_the_order_of_all_small_words(self):
        for tongue in ("a", "ba", "c\na"):
            words = words_upto(tongue, 4)
            for at, word in enumerate(words):
                for place, other in enumerate(words):
                    self.assertIs(ahead(tongue, word, other), at < place)


class NumberTest(unittest.TestCase):
    def test_numbers_count_the_words_ahead(self):
        for tongue in ("a", "ba", "\nac", "fedcba"):
            for number, word in enumerate(words_upto(tongue, 4)):
                self.assertEqual(number_of(tongue, word), number)
                self.assertEqual(word_at(tongue, number), word)

    def test_the_first_word(self):
        self.assertEqual(word_at("ab", 0), "")
        self.assertEqual(number_of("ab", ""), 0)

    def test_the_last_word_of_sixty_signs(self):
        for tongue in ("a", "ab", "fedcba"):
            last = tongue[-1] * 60
            number = sum(len(tongue) ** size for size in range(1, 61))
            self.assertEqual(number_of(tongue, last), number)
            self.assertEqual(word_at(tongue, number), last)
            for beyond in (number + 1, number + 2, 10 ** 999):
                with self.assertRaises(NoWord):
                    word_at(tongue, beyond)

    def test_a_tongue_of_one_sign(self):
        self.assertEqual([word_at("x", number) for number in (0, 1, 59, 60)], ["", "x", "x" * 59, "x" * 60])

    def test_no_numbers(self):
        for thing in odd_things() + [-1, "1", (1,), [1], "ab"]:
            if isinstance(thing, int) and not isinstance(thing, bool) and 0 <= thing <= 100:
                continue
            with self.assertRaises(NoWord):
                word_at("ab", thing)
