import random
import unittest

from nearreach.cuttexts import cut_text
from nearreach.errors import NoText, TooMany
from tests.helpers import (
    THIRTY_THREE, THIRTY_TWO, EqualToAll, book, is_kept, many, odd_things, one, row, small_books, some_text, times,
    tried_cut, words_upto,
)

A, B, AB, FEED = one("a"), one("b"), one("ab"), one("\n")
LINES = ("ab\n>", (("word", row(A, many(AB))), ("feed", FEED), ("both", row(B, FEED, B)), ("end", one(">"))))


def plain_spot(text, at):
    lines = text[:at].split("\n")
    return str(len(lines)) + ":" + str(len(lines[-1]) + 1)


def plain_text(each, text):
    pieces, place = tried_cut(each, text)
    lines = []
    for name, start, end in pieces:
        quote = text[start:end].replace("\\", "\\\\").replace(">", "\\>").replace("\n", "\\n")
        lines.append(name + " " + plain_spot(text, start) + " <" + quote + ">\n")
    return "".join(lines) + ("fault " + plain_spot(text, place) + "\n" if place < len(text) else "")


class CutTextTest(unittest.TestCase):
    def test_by_hand(self):
        for text, told in [
            ("", ""), ("a", "word 1:1 <a>\n"), ("ab\na", "word 1:1 <ab>\nfeed 1:3 <\\n>\nword 2:1 <a>\n"),
            ("b", "fault 1:1\n"), ("a\nb", "word 1:1 <a>\nfeed 1:2 <\\n>\nfault 2:1\n"),
            # A piece over a line feed; the next one is spotted on the next line.
            ("b\nba", "both 1:1 <b\\nb>\nword 2:2 <a>\n"), ("\n\nb\nb\n", "feed 1:1 <\\n>\nfeed 2:1 <\\n>\n"
                                                            "both 3:1 <b\\nb>\nfeed 4:2 <\\n>\n"),
            (">a", "end 1:1 <\\>>\nword 1:2 <a>\n"), ("\n>b", "feed 1:1 <\\n>\nend 2:1 <\\>>\nfault 2:2\n"),
        ]:
            self.assertEqual(cut_text(LINES, text), told)
        self.assertEqual(cut_text(("ab", ()), ""), "")
        self.assertEqual(cut_text(("ab", ()), "ab"), "fault 1:1\n")
        self.assertEqual(cut_text(("\\<", (("x", one("\\<")),)), "\\<"), "x 1:1 <\\\\>\nx 1:2 <<>\n")

    def test_some_books(self):
        source = random.Random(301)
        faults, feeds = 0, 0
        for each in small_books(60, seed=301, tongues=("ab", "\na", "\n>")) + [LINES]:
            for text in words_upto(each[0], 3) + [some_text(source, each[0], 10) for _ in range(3)]:
                told = cut_text(each, text)
                self.assertEqual(told, plain_text(each, text), (each, text))
                faults += "fault" in told
                feeds += "\\n" in told
        self.assertGreater(min(faults, feeds), 100)

    def test_long_texts(self):
        told = cut_text(LINES, "a\n" * 120)
        self.assertEqual(told, "".join(f"word {at}:1 <a>\nfeed {at}:2 <\\n>\n" for at in range(1, 121)))
        self.assertEqual(cut_text(LINES, "a" * 239 + ">"), "word 1:1 <" + "a" * 239 + ">\nend 1:240 <\\>>\n")

    def test_refusals_and_their_order(self):
        for thing in odd_things() + ["abx", "A", ("a",), ["a"], b"a", EqualToAll()]:
            if repr(thing) != "''":
                with self.assertRaises(NoText):
                    cut_text(LINES, thing)
        heavy = book(row(many(AB), A, times(AB, 4, 4), times(AB, 4, 4)))
        for text in ["a", "", "x", None, 5]:
            for each in (THIRTY_THREE, heavy):
                with self.assertRaises(TooMany):
                    cut_text(each, text)
        self.assertEqual(cut_text(THIRTY_TWO, "abbbb"), "one 1:1 <abbbb>\n")

    def test_nothing_is_changed(self):
        is_kept(self, cut_text, LINES, "ab\n>b")
