"""The promise over the whole program: all ways to a text's cut tell what trying the rules at each place tells."""

import random
import unittest

from nearreach.aheads import ahead_rows, cut_by
from nearreach.books import with_rule
from nearreach.booktexts import book_text, read_book
from nearreach.changes import altered, named_cut
from nearreach.compares import pairs, pairs_hold, parted
from nearreach.cuts import cut, cut_holds
from nearreach.cuttexts import cut_text
from nearreach.desk import Desk
from nearreach.errors import TooMany
from nearreach.gathers import gathering, gathering_holds
from nearreach.lates import late_holds, late_pair
from nearreach.least import least_holds, partings, ways_to
from nearreach.machines import machine_of
from nearreach.making import table_of
from nearreach.modecuts import moded_cut
from nearreach.modestreams import ModeStream
from nearreach.noters import Noter
from nearreach.quotes import quoted, unquoted
from nearreach.reaches import heights, heights_hold, reach
from nearreach.shapetexts import shape_text
from nearreach.spots import place_at
from nearreach.steps import needing, needing_holds, rounds, rounds_hold
from nearreach.streams import Stream
from tests.helpers import many, one, row, small_books, some_parts, some_text, tried_cut, tried_kind, words_upto

A, B = one("a"), one("b")
# No number is enough, as any count of b may stand ahead of the second a.
ENDLESS = ("ab", (("x", A), ("y", row(A, many(B), A)), ("z", B)))
FAR = ("ab", (("x", A), ("y", row(A, B, B, A, B)), ("z", B)))


def read_in_parts(reader, parts):
    """The pieces that a reader tells to its end, and the place where it ended."""
    told = []
    for part in parts:
        if reader.state() == "open":
            told += reader.feed(part)
    if reader.state() == "open":
        told += reader.close()
    return told, reader.seen() if reader.fault() is None else reader.fault()


def read_lines(text, lines):
    """The cut by names that lines write."""
    pieces, place = [], 0
    for line in lines.splitlines():
        name, spot, *quote = line.split(" ", 2)
        start = place_at(text, *map(int, spot.split(":")))
        if not quote:
            return pieces, start
        pieces.append((name, start, start + len(unquoted(quote[0]))))
        place = pieces[-1][2]
    return pieces, place


class WholeTest(unittest.TestCase):
    def books(self, count, seed):
        for each in small_books(count, seed, tongues=("a", "ab", "b\na", "\\>")) + [ENDLESS, FAR]:
            again = read_book(book_text(each))
            self.assertEqual(again, each)
            try:
                yield again, table_of(again)
            except TooMany:
                pass

    def test_all_cuts_are_alike(self):
        source = random.Random(321)
        faults, whole = 0, 0
        for each, table in self.books(100, seed=321):
            names = [name for name, shape in each[1]]
            machine = machine_of((each[0], (tuple((*rule, ("stay",)) for rule in each[1]),)))
            desk = self.desk_with(each)
            for text in words_upto(each[0], 3) + [some_text(source, each[0], 11) for _ in range(4)]:
                tried = tried_cut(each, text)
                pieces = [(names.index(name), start, end) for name, start, end in tried[0]]
                plain = (pieces, tried[1])
                self.assertEqual(named_cut(each, text), tried, (each, text))
                self.assertEqual(cut(table, text), plain)
                self.assertIs(cut_holds(table, text, *plain), True)
                self.assertEqual(cut_by(table, text, ahead_rows(table, text)), plain)
                self.assertEqual(read_lines(text, cut_text(each, text)), tried)
                self.assertEqual(moded_cut(machine, 0, text)[:2], ([(0, *piece) for piece in pieces], tried[1]))
                for parts in [[text], list(text), some_parts(source, text)]:
                    self.assertEqual(read_in_parts(Stream(table), parts), (pieces, tried[1]))
                    self.assertEqual(read_in_parts(Noter(table), parts), (pieces, tried[1]))
                    told, place = read_in_parts(ModeStream(machine, 0), parts)
                    self.assertEqual(told, [(0, *piece) for piece in pieces])
                    self.assertEqual(place, len(text) if tried[1] == len(text) else (tried[1], "none"))
                self.assertEqual(desk.do("cut " + quoted(text)), cut_text(each, text))
                faults += tried[1] < len(text)
                whole += tried[1] == len(text)
        self.assertGreater(min(faults, whole), 200)

    def desk_with(self, each):
        desk = Desk()
        self.assertEqual(desk.do("tongue " + quoted(each[0])), "ok")
        for at, (name, shape) in enumerate(each[1]):
            self.assertEqual(desk.do(f"rule {at} {name} {shape_text(shape)}"), "ok")
        self.assertEqual(desk.do("show"), book_text(each))
        return desk

    def test_tables_and_their_papers(self):
        for each, table in self.books(120, seed=322):
            for word in words_upto(each[0], 4):
                room = 0
                for sign in word:
                    room = table[1][room][each[0].index(sign)]
                self.assertEqual(table[2][room], tried_kind(each, word), (each, word))
            self.assertIs(gathering_holds(each, table, gathering(each)), True)
            self.assertIs(least_holds(table, ways_to(table), partings(table)), True)

    def test_reaches_and_their_papers(self):
        told = set()
        for each, table in self.books(150, seed=323):
            number = reach(table)
            told.add(number)
            if number is None:
                self.assertIs(rounds_hold(table, *rounds(table)), True)
            else:
                self.assertIs(heights_hold(table, number, heights(table)), True)
                self.assertIs(number == 0 or needing_holds(table, number, *needing(table)), True)
                self.assertIs(late_pair(table, number), None)
            for lesser in range(5 if number is None else number):
                self.assertIs(late_holds(table, lesser, *late_pair(table, lesser)), True)
        self.assertTrue({None, 0, 1, 2, 4} <= told, told)

    def test_a_reader_keeps_few_signs(self):
        source = random.Random(324)
        for each, table in self.books(80, seed=324):
            number, stream = reach(table), Stream(table)
            for sign in some_text(source, each[0], 40):
                if stream.state() == "open":
                    stream.feed(sign)
                    if number is not None:
                        self.assertLessEqual(len(stream.kept()), max(number - 1, 0))

    def test_two_books(self):
        alike, unlike = 0, 0
        before = {}
        for each, table in self.books(200, seed=325):
            other, old = before.get(each[0], (each, table))
            before[each[0]] = (each, table)
            word = parted(old, table)
            if word is None:
                self.assertIs(pairs_hold(old, table, pairs(old, table)), True)
                alike += 1
            else:
                self.assertNotEqual(cut(old, word), cut(table, word))
                for text in words_upto(each[0], min(len(word) - 1, 4)):
                    self.assertEqual(cut(old, text), cut(table, text))
                unlike += 1
        self.assertGreater(min(alike, unlike), 10)

    def test_a_rule_more(self):
        parted_cuts = 0
        for each, table in self.books(100, seed=326):
            if len(each[1]) == 6:
                continue
            for at in range(len(each[1]) + 1):
                more = with_rule(each, at, ("new", ("row", (("one", each[0][-1]), ("one", each[0][0])))))
                told = altered(each, more)
                if told is None:
                    continue
                text, (old, place), (new, later) = told
                first = next(number for number, piece in enumerate(new) if old[number:number + 1] != [piece])
                self.assertEqual(new[first][0], "new")
                self.assertTrue(first == len(old) or old[first][2] <= new[first][2])
                parted_cuts += 1
        self.assertGreater(parted_cuts, 50)
