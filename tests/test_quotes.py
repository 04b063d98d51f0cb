import random
import unittest

from nearreach.errors import NoQuote
from nearreach.quotes import quoted, unquoted
from tests.helpers import is_kept, odd_things, words_upto

SIGNS = "".join(chr(number) for number in range(32, 127) if chr(number) != "%") + "\n"


def plain_quote(text):
    return "<" + text.replace("\\", "\\\\").replace(">", "\\>").replace("\n", "\\n") + ">"


class QuotedTest(unittest.TestCase):
    def test_by_hand(self):
        for text, quote in [
            ("", "<>"), ("a", "<a>"), ("ab c", "<ab c>"), ("\n", "<\\n>"), (">", "<\\>>"), ("\\", "<\\\\>"),
            ("<", "<<>"),
            ("n", "<n>"), ("\\n", "<\\\\n>"), ("\\\n", "<\\\\\\n>"), (">>", "<\\>\\>>"), ("<>", "<<\\>>"), (" ", "< >"),
            ("\\>", "<\\\\\\>>"), ("a\nb>c\\d", "<a\\nb\\>c\\\\d>"), ("'\"{}()", "<'\"{}()>"),
        ]:
            self.assertEqual(quoted(text), quote)
            self.assertEqual(unquoted(quote), text)

    def test_each_sign_there_and_back(self):
        self.assertEqual(len(SIGNS), 95)
        for sign in SIGNS:
            self.assertEqual(quoted(sign), plain_quote(sign))
            self.assertEqual(unquoted(quoted(sign)), sign)

    def test_long_texts_there_and_back(self):
        source = random.Random(271)
        for size in [0, 1, 2, 5, 249, 250]:
            for signs in (SIGNS, "\n>\\", "<>\\n\n", "\n", ">", "\\", "n"):
                text = "".join(source.choice(signs) for _ in range(size))
                self.assertEqual(quoted(text), plain_quote(text))
                self.assertEqual(unquoted(quoted(text)), text)
        self.assertEqual(len(quoted("\n" * 250)), 502)

    def test_nothing_is_changed(self):
        is_kept(self, quoted, "a\n>")
        is_kept(self, unquoted, "<a\\n>")


class UnquotedTest(unittest.TestCase):
    def test_no_quotes(self):
        for text in [
            "", "<", ">", "a", "a>", "<a", "><", "<a>b", "<a> ", " <a>", "<a>\n", "\n<a>", "<a\nb>", "<\n>", "<<", ">>",
            "<a\\b>", "<\\a>", "<\\<>", "<\\ >", "<\\N>", "<\\", "<a\\", "<\\>", "<a\\>", "<\\\\\\>", "<a>b>", "<>>",
            "<a>>",
            "<a><b>", "<>a", "<\\\n>", "<\\n", "<\\\\", "\\<a>", "(<a>)", "<a%b>", "<\t>", "<\u00e9>",
        ]:
            with self.assertRaises(NoQuote, msg=text):
                unquoted(text)

    def test_all_short_texts(self):
        """A text is a quote just where it is the quote of some text."""
        texts = words_upto("<>\\na\n", 5)
        told = {}
        for text in texts:
            try:
                told[text] = unquoted(text)
            except NoQuote:
                pass
        quotes = {plain_quote(text): text for text in words_upto("<>\\na\n", 3)}
        self.assertEqual(told, {quote: text for quote, text in quotes.items() if len(quote) <= 5})
        self.assertGreater(len(told), 50)

    def test_long_ones(self):
        self.assertEqual(unquoted("<" + "a" * 498 + ">"), "a" * 498)
        self.assertEqual(unquoted("<" + "\\\\" * 249 + ">"), "\\" * 249)
        with self.assertRaises(NoQuote):
            unquoted("<" + "\\" * 499)
        with self.assertRaises(NoQuote):
            unquoted("<" * 500)

    def test_odd_things(self):
        for thing in odd_things():
            with self.assertRaises(NoQuote):
                unquoted(thing)
