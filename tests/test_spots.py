import random
import unittest

from nearreach.cuts import cut
from nearreach.errors import NoPlace
from nearreach.making import table_of
from nearreach.spots import place_at, spot, spots
from tests.helpers import EqualToAll, book, is_kept, many, odd_things, one, row, some_text, words_upto

TEXTS = ["", "\n", "a", "ab\nc", "\nab", "ab\n", "\n\n", "a\n\nb", "\n\na\n", "no line feed", "a~ \n$&\n\n z"]


def plain_spot(text, at):
    """The spot, by counting on from the text's beginning."""
    line, column = 1, 1
    for sign in text[:at]:
        line, column = (line + 1, 1) if sign == "\n" else (line, column + 1)
    return line, column


class SpotTest(unittest.TestCase):
    def test_by_hand(self):
        for text, at, told in [
            ("", 0, (1, 1)), ("ab", 0, (1, 1)), ("ab", 1, (1, 2)), ("ab", 2, (1, 3)), ("\nab", 0, (1, 1)),
            ("\nab", 1, (2, 1)), ("\nab", 3, (2, 3)), ("ab\n", 2, (1, 3)), ("ab\n", 3, (2, 1)), ("a\n\nb", 2, (2, 1)),
            ("a\n\nb", 3, (3, 1)), ("a\n\nb", 4, (3, 2)), ("\n\n", 2, (3, 1)), ("a" * 240, 240, (1, 241)),
            ("\n" * 240, 240, (241, 1)), ("\n" * 240, 239, (240, 1)),
        ]:
            self.assertEqual(spot(text, at), told, (text, at))

    def test_there_and_back(self):
        source = random.Random(81)
        for text in TEXTS + words_upto("a\n", 5) + [some_text(source, "ab\n", 240) for _ in range(3)]:
            for at in range(len(text) + 1):
                told = spot(text, at)
                self.assertEqual(told, plain_spot(text, at))
                self.assertIs(type(told), tuple)
                self.assertEqual(place_at(text, *told), at)

    def test_no_other_place(self):
        for text in TEXTS + words_upto("a\n", 4):
            told = {spot(text, at): at for at in range(len(text) + 1)}
            for line in range(-2, 8):
                for column in range(-2, 15):
                    if (line, column) in told:
                        self.assertEqual(place_at(text, line, column), told[line, column])
                    else:
                        with self.assertRaises(NoPlace, msg=(text, line, column)):
                            place_at(text, line, column)

    def test_beyond_the_ends(self):
        for text, line, column in [
            ("ab\nc", 1, 4), ("ab\nc", 2, 3), ("ab\nc", 3, 1), ("", 1, 2), ("", 2, 1), ("a\n", 2, 2), ("a\n", 3, 1),
            ("ab\nc", 0, 1), ("ab\nc", 1, 0), ("ab\nc", -1, 1), ("ab\nc", 1, -1), ("ab\nc", True, 1), ("ab", 1, True),
            ("ab\nc", 10 ** 999, 1), ("ab\nc", 1, 10 ** 999), ("ab\nc", "1", 1), ("ab\nc", (1,), 1), ("ab\nc", 1, [1]),
            ("ab\nc", None, None), ("ab\nc", EqualToAll(), 1), ("ab\nc", 1, EqualToAll()),
        ]:
            with self.assertRaises(NoPlace, msg=(text, line, column)):
                place_at(text, line, column)

    def test_odd_things(self):
        for thing in odd_things():
            if repr(thing) not in ("1", "2"):
                with self.assertRaises(NoPlace):
                    place_at("a\nb", thing, 1)
                with self.assertRaises(NoPlace):
                    place_at("a\nb", 2, thing)

    def test_spots(self):
        line = row(one("a\n"), many(one("a")))
        table = table_of(book(line, one("b"), tongue="ab\n"))
        text = "aa\n\naabb\nb"
        pieces, place = cut(table, text)
        self.assertEqual(spots(text, pieces), [
            (0, (1, 1), (1, 3)), (0, (1, 3), (2, 1)), (0, (2, 1), (3, 3)), (1, (3, 3), (3, 4)), (1, (3, 4), (3, 5)),
            (0, (3, 5), (4, 1)), (1, (4, 1), (4, 2))])
        self.assertEqual(spots(text, []), [])
        self.assertEqual(spots("", []), [])

    def test_told_lists_are_the_askers_own(self):
        pieces = [(0, 0, 1), (3, 1, 2)]
        told = spots("a\n", pieces)
        told.append(None)
        told[0] = None
        self.assertEqual(spots("a\n", pieces), [(0, (1, 1), (1, 2)), (3, (1, 2), (2, 1))])
        self.assertEqual(pieces, [(0, 0, 1), (3, 1, 2)])
        is_kept(self, spot, "a\nb", 2)
        is_kept(self, spots, "a\n", pieces)
        is_kept(self, place_at, "a\nb", 2, 1)
