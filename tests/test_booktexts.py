import random
import unittest

from nearreach.booktexts import book_text, read_book
from nearreach.errors import NoLine, ReachError, TooHeavy
from tests.helpers import (
    NAMES, THIRTY_THREE, THIRTY_TWO, book, either, is_kept, many, odd_things, one, plain_is_book, row, small_books,
    some_books, times,
)

A, B, AB = one("a"), one("b"), one("ab")
GOOD = "tongue <ab>\nrule x <a>\nrule y (<b> *<a>)\n"


class WriteTest(unittest.TestCase):
    def test_by_hand(self):
        for each, text in [
            (("ab", ()), "tongue <ab>\n"),
            (("ab", (("x", A), ("y", row(B, many(A))))), GOOD),
            (("\n>\\", (("x", one("\n")), ("why", many(one(">\\"))))),
             "tongue <\\n\\>\\\\>\nrule x <\\n>\nrule why *<\\>\\\\>\n"),
            ((" ", (("a", row()), ("abcdefgh", one(" ")))), "tongue < >\nrule a ()\nrule abcdefgh < >\n"),
            (("<:", (("tongue", one("<")), ("rule", either(one(":"), times(one("<:"), 0, 2))))),
             "tongue <<:>\nrule tongue <<>\nrule rule {<:> 0-2:<<:>}\n"),
        ]:
            self.assertEqual(book_text(each), text)
            self.assertEqual(read_book(text), each)

    def test_some_books_there_and_back(self):
        rules = set()
        for each in some_books(150, seed=291) + small_books(100, seed=292, tongues=("\n>", "\\<> (")):
            text = book_text(each)
            self.assertEqual(read_book(text), each)
            self.assertEqual(text.count("\n"), len(each[1]) + 1)
            rules.add(len(each[1]))
        self.assertEqual(rules, set(range(7)))

    def test_a_book_with_too_many_rooms_is_a_book(self):
        for each in [THIRTY_TWO, THIRTY_THREE, book(row(many(AB), A, times(AB, 4, 4), times(AB, 4, 4)))]:
            self.assertEqual(read_book(book_text(each)), each)

    def test_nothing_is_changed(self):
        is_kept(self, book_text, ("ab", (("x", A), ("y", B))))
        is_kept(self, read_book, GOOD)


class ReadTest(unittest.TestCase):
    def refused(self, text, line):
        with self.assertRaises(NoLine, msg=repr(text)[:300]) as caught:
            read_book(text)
        self.assertEqual(repr(caught.exception.line), repr(line), text)

    def test_the_first_line(self):
        for text in [
            "", "\n", "tongue <ab>", "tongue", "tongue\n", "tongue \n", "tongue ab\n", "tongue <>\n", "tongue <aa>\n",
            "tongue <abcdefg>\n", "tongue <a\n", "tongue  <ab>\n", " tongue <ab>\n", "tongue <ab> \n", "Tongue <ab>\n",
            "tongue<ab>\n", "tongue <a\\b>\n", "tongue <a>b>\n", "rule x <a>\n", "tongues <ab>\n", "x",
            "tongue <ab>x\n",
            "tongue <a\nb>\n", "\ntongue <ab>\n", "tongue <ab>\r\n", "rule x <a>\ntongue <ab>\n", "tongue <ab", "\n\n",
        ]:
            self.refused(text, 1)
            if text.endswith("\n"):
                # Another line that can't stand behind it.
                self.refused(text + "rule\n", 1)

    def test_a_rule_that_is_none(self):
        for line in [
            "", " ", "rule", "rule ", "rule z", "rule z ", "rule z<a>", "rule  z <a>", "rule z  <a>", " rule z <a>",
            "rule z <a> ", "rules z <a>", "Rule z <a>", "z <a>", "tongue <ab>", "rule <a>", "rule z {}", "rule z <aa>",
            "rule Z <a>", "rule z1 <a>", "rule abcdefghi <a>", "rule z_ <a>", "rule \u00e9 <a>", "rule z 2-1:<a>",
            "rule z *****<a>", "rule z <c>", "rule z (<a> *<bc>)", "rule z 0-0:<c>", "rule z <\\n>", "rule z z <a>",
            "rule z <a>\t", "rule z <a", "rule", "rule z (<a>", "rule z " + "(" * 200, "rule z " + "*" * 200,
        ]:
            self.refused(GOOD + line + "\n", 4)
            # The first of two lines that can't stand.
            self.refused(GOOD + line + "\nrule x <a>\n", 4)
            self.refused(GOOD + line + "\nrule u <a>\nx", 4)
            self.refused("tongue <ab>\n" + line + "\nrule w <a>\n", 2)

    def test_a_last_line_without_a_line_feed(self):
        self.refused("tongue <ab>", 1)
        self.refused("tongue <ab>\nrule x <a>", 2)
        self.refused("tongue <ab>\n ", 2)
        self.refused(GOOD + "rule z <a>", 4)
        self.refused(GOOD + "x", 4)
        self.refused(GOOD + "\nx", 4)
        self.refused(GOOD + "rule x <a>\nx", 4)

    def test_names_that_stood_ahead(self):
        self.refused("tongue <ab>\nrule x <a>\nrule x <b>\n", 3)
        self.refused("tongue <ab>\nrule x <a>\nrule y <a>\nrule y <b>\nrule x <b>\n", 4)
        self.assertEqual(read_book("tongue <ab>\nrule x <a>\nrule xx <a>\n"), ("ab", (("x", A), ("xx", A))))

    def test_a_seventh_rule(self):
        six = "tongue <ab>\n" + "".join("rule " + name + " <a>\n" for name in NAMES)
        self.assertEqual(len(read_book(six)[1]), 6)
        self.refused(six + "rule seven <a>\n", 8)
        self.refused(six + "rule seven <a>", 8)
        self.refused(six + "\n", 8)
        self.refused(six + "rule seven <a>\nrule eight <a>\n", 8)
        self.refused(six.replace("two", "one") + "rule seven <a>\n", 3)

    def test_too_heavy_only_where_all_lines_can_stand(self):
        ten = "tongue <ab>\nrule x 4-4:(<a> <b>)\nrule y 0-2:<a>\n"
        self.assertEqual(read_book(ten), ("ab", (("x", times(row(A, B), 4, 4)), ("y", times(A, 0, 2)))))
        heavy = ten + "rule z <a>\n"
        for text in [heavy, "tongue <ab>\nrule x 4-4:4-4:<a>\n", "tongue <ab>\nrule x 0-3:*(<a> <a> <b> <b>)\n"]:
            with self.assertRaises(TooHeavy):
                read_book(text)
        self.assertEqual(len(read_book(ten + "rule z 0-0:<a>\n")[1]), 3)
        self.refused(heavy + "rule z <a>\n", 5)
        self.refused(heavy + "x", 5)
        self.refused(heavy + "\n", 5)
        self.refused("tongue <ab>\nrule x 4-4:4-4:<a>\nrule y <c>\n", 3)

    def test_long_texts(self):
        self.refused("tongue <ab>\n" + "rule x <b>\n" * 360, 3)
        self.refused("\n" * 4000, 1)
        self.refused("tongue <ab>\n" + "\n" * 3900, 2)
        self.refused("x" * 4000, 1)
        self.refused("tongue <ab>\nrule x <" + "a" * 3900 + ">\n", 2)
        self.refused("tongue <ab>\nrule x (" + "<a> " * 900 + "<a>)\n", 2)

    def test_changed_texts(self):
        """A sign more, less or another: read only where what is read is written so, else a line is told."""
        source = random.Random(293)
        read, lines = 0, set()
        for each in small_books(40, seed=293, tongues=("ab", "\n>", "(<")):
            text = book_text(each)
            for _ in range(60):
                at = source.randrange(len(text) + 1)
                sign = source.choice("<>(){}* 02-:ab\\\nrx")
                other = source.choice([text[:at] + sign + text[at:], text[:at] + text[at + 1:],
                                       text[:at] + sign + text[at + 1:]])
                try:
                    told = read_book(other)
                except NoLine as refusal:
                    # All lines ahead of it can stand.
                    ahead = other.split("\n")[:refusal.line - 1]
                    if ahead:
                        self.assertEqual(book_text(read_book("\n".join(ahead) + "\n")), "\n".join(ahead) + "\n")
                    with self.assertRaises(NoLine) as caught:
                        read_book("\n".join(other.split("\n")[:refusal.line]) + "\n" * (
                            refusal.line < len(other.split("\n"))))
                    self.assertEqual(caught.exception.line, refusal.line)
                    lines.add(refusal.line)
                    continue
                except TooHeavy:
                    continue
                self.assertTrue(plain_is_book(told))
                self.assertEqual(book_text(told), other)
                read += 1
        self.assertGreater(read, 100)
        self.assertTrue({1, 2, 3, 4, 5} <= lines, lines)

    def test_the_refusal(self):
        for kind in (ReachError, ValueError):
            with self.assertRaises(kind):
                read_book("")

    def test_odd_things(self):
        for thing in odd_things():
            self.refused(thing, 1)
