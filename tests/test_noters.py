import random
import unittest

from nearreach.errors import Closed, NoText, Stopped
from nearreach.making import table_of
from nearreach.noters import Noter
from nearreach.streams import Stream
from tests.helpers import (
    ENDLESS, FARTHEST, EqualToAll, book, grown_tables, many, odd_things, one, row, small_tables, some_parts, some_text,
    walk, words_upto,
)

A, B, C = one("a"), one("b"), one("c")
# From each a on a b may still come.
ENDS = table_of(book(A, row(many(A), B)))
SOME = table_of(book(A, row(A, B, A, B), B, tongue="abc"))
STILL = ("ab", ((1, 0), (0, 1)), (-1, -1))
METHODS = ["state", "seen", "fault", "kept"]


def has_hope(table, room):
    return any(table[2][walk(table, room, word)] != -1 for word in words_upto(table[0], len(table[1]))[1:])


def plain_goes(table, hope, text, closed):
    """The goes and notes for a text that was fed so far, all from its beginning on, by the document's words."""
    goes, notes, p = [], set(), 0
    while True:
        if p == len(text):
            return goes, notes
        room, place, trail, found = 0, p, [], None
        while hope[room] and (room, place) not in notes and place < len(text):
            room, place = walk(table, room, text[place]), place + 1
            goes.append((room, place))
            if table[2][room] != -1:
                found, trail = place, []
            else:
                trail.append((room, place))
        lacking = hope[room] and (room, place) not in notes
        if lacking and not closed:
            return goes, notes
        notes |= set(trail)
        if found is None:
            return goes, notes
        p = found


def look(reader):
    return [getattr(reader, name)() for name in METHODS]


class NoterTest(unittest.TestCase):
    def gone(self, table, parts):
        """The reader with notes beside the one in streams, and beside what is counted anew each time."""
        hope = [has_hope(table, room) for room in range(len(table[1]))]
        noter, stream, text = Noter(table), Stream(table), ""
        self.assertEqual((look(noter), noter.work(), noter.notes()), (look(stream), 0, 0))
        for part in [*parts, None]:
            if stream.state() == "stopped":
                break
            told = noter.close() if part is None else noter.feed(part)
            self.assertIs(type(told), list)
            self.assertEqual(told, stream.close() if part is None else stream.feed(part), (table, parts))
            self.assertEqual(look(noter), look(stream), (table, parts))
            text += part or ""
            goes, notes = plain_goes(table, hope, text, part is None)
            self.assertEqual((noter.work(), noter.notes()), (len(goes), len(notes)), (table, parts, text))
            self.assertLessEqual(noter.work(), len(text) * (len(table[1]) + 2))
        return noter.work(), noter.notes(), noter.state()

    def test_by_hand(self):
        noter = Noter(ENDS)
        self.assertEqual(ENDS, ("ab", ((1, 2), (3, 2), (4, 4), (3, 2), (4, 4)), (-1, 0, 1, -1, -1)))
        # The first a is a piece; the three behind it are on the trail.
        self.assertEqual([noter.feed("aaaa"), noter.work(), noter.notes(), noter.kept()], [[], 4, 0, "aaa"])
        # Closed, they are noted; from each a on the next go leads to a note at once, and that isn't gone on from.
        self.assertEqual(noter.close(), [(0, at, at + 1) for at in range(4)])
        self.assertEqual((noter.work(), noter.notes(), noter.state()), (4 + 2 + 2 + 1, 3, "closed"))

    def test_the_way_is_not_gone_twice(self):
        noter = Noter(ENDS)
        noter.feed("a" * 240)
        noter.close()
        # 240 goes first, then two for each piece but the last: to the piece's room, and to one that is noted.
        self.assertEqual((noter.work(), noter.notes()), (240 + 2 * 238 + 1, 239))

    def test_a_fault_notes_its_trail(self):
        noter = Noter(table_of(book(row(A, A, A))))
        self.assertEqual([noter.feed("aa"), noter.work(), noter.notes()], [[], 2, 0])
        self.assertEqual([noter.feed("b"), noter.work(), noter.notes()], [[], 3, 3])
        self.assertEqual(look(noter), ["stopped", 3, 0, ""])
        noter = Noter(table_of(book(row(A, A, A))))
        self.assertEqual([noter.feed("aa"), noter.close(), noter.work(), noter.notes()], [[], [], 2, 2])
        self.assertEqual(look(noter), ["stopped", 2, 0, ""])

    def test_a_piece_empties_the_trail(self):
        noter = Noter(table_of(book(row(A, A, A))))
        self.assertEqual([noter.feed("aaa"), noter.work(), noter.notes()], [[(0, 0, 3)], 3, 0])

    def test_waiting_where_no_sign_was_fed(self):
        for table in [STILL, SOME, ENDS]:
            noter = Noter(table)
            self.assertEqual([noter.feed(""), noter.work(), noter.notes(), look(noter)],
                             [[], 0, 0, ["open", 0, None, ""]])
        noter = Noter(STILL)
        # Room 0 has no hope, so no go is taken.
        self.assertEqual([noter.feed("ab"), noter.work(), noter.notes(), look(noter)],
                         [[], 0, 0, ["stopped", 2, 0, ""]])
        noter = Noter(STILL)
        self.assertEqual([noter.close(), noter.state(), noter.fault()], [[], "closed", None])

    def test_room_0_may_be_noted(self):
        # Behind a b the room is the first one again, and no c comes.
        table = ("abc", ((1, 0, 2), (3, 0, 3), (3, 3, 3), (3, 3, 3)), (-1, 0, 1, -1))
        noter = Noter(table)
        self.assertEqual([noter.feed("abb"), noter.kept()], [[], "bb"])
        self.assertEqual(noter.close(), [(0, 0, 1)])
        # The two rooms 0 behind the a are noted; from place 1 on one go leads to the first of them.
        self.assertEqual((noter.work(), noter.notes(), noter.fault()), (4, 2, 1))

    def test_room_0_is_noted_where_a_piece_begins(self):
        # The words a, b and ab(b..)c: behind ab a b leads back to room 0.
        table = ("abc", ((1, 2, 3), (3, 4, 3), (3, 3, 3), (3, 3, 3), (3, 0, 5), (3, 3, 3)), (-1, 0, 1, -1, -1, 2))
        noter = Noter(table)
        self.assertEqual(noter.feed("abbcc"), [(0, 0, 1), (1, 1, 2), (1, 2, 3)])
        # Four goes over abbc note rooms 4, 0 and 3; one go for each b; at place 3 room 0 is noted, so none there.
        self.assertEqual((noter.work(), noter.notes(), noter.fault(), noter.seen()), (6, 3, 3, 5))
        for text in words_upto("abc", 5):
            self.gone(table, [text])
            self.gone(table, list(text))

    def test_some_tables(self):
        source = random.Random(131)
        states, most = set(), 0
        for table in small_tables(150, seed=131) + grown_tables(60, seed=132, kinds=(-1, 0, 1)) + [SOME, ENDS, ENDLESS]:
            for _ in range(4):
                text = some_text(source, table[0], source.randint(0, 14))
                work, notes, state = self.gone(table, [text])
                states.add(state)
                most = max(most, notes)
                if state == "closed":
                    self.assertEqual(self.gone(table, list(text)), (work, notes, state))
                    self.assertEqual(self.gone(table, some_parts(source, text)), (work, notes, state))
                else:
                    self.gone(table, list(text))
                    self.gone(table, some_parts(source, text))
        self.assertEqual(states, {"closed", "stopped"})
        self.assertGreater(most, 8)

    def test_all_short_texts(self):
        for table in [ENDS, table_of(book(row(A, many(B), A), B)), table_of(book(A, row(A, B, A, B), B))]:
            for text in words_upto("ab", 7):
                self.gone(table, [text])
                self.gone(table, list(text))

    def test_long_texts(self):
        source = random.Random(133)
        for table in grown_tables(20, seed=133, kinds=(-1, 0, 0, 1)) + [ENDS, FARTHEST, SOME, ENDLESS]:
            for text in [some_text(source, table[0], 240), table[0][0] * 240]:
                self.gone(table, [text])
                self.gone(table, some_parts(source, text))

    def test_the_same_however_it_comes_in_parts(self):
        source = random.Random(134)
        for table in grown_tables(60, seed=134, kinds=(-1, -1, 0, 1)):
            text = some_text(source, table[0], 30)
            ends = set()
            for parts in [[text], list(text), some_parts(source, text)]:
                noter = Noter(table)
                for part in parts:
                    if noter.state() == "open":
                        noter.feed(part)
                if noter.state() == "open":
                    noter.close()
                ends.add((noter.work(), noter.notes(), noter.state(), noter.fault()))
            self.assertEqual(len(ends), 1)


class RefusalTest(unittest.TestCase):
    def test_no_text(self):
        noter = Noter(SOME)
        noter.feed("ab")
        before = look(noter) + [noter.work(), noter.notes()]
        for thing in odd_things() + ["abx", "A", ("a",), ["a"], b"a", EqualToAll()]:
            if repr(thing) == "''":
                continue
            with self.assertRaises(NoText):
                noter.feed(thing)
            self.assertEqual(look(noter) + [noter.work(), noter.notes()], before)
        self.assertEqual(noter.feed("ab"), [(1, 0, 4)])

    def test_closed_and_stopped_go_ahead(self):
        closed, stopped = Noter(SOME), Noter(SOME)
        closed.feed("ab")
        closed.close()
        stopped.feed("ac")
        for noter, error in [(closed, Closed), (stopped, Stopped)]:
            before = look(noter) + [noter.work(), noter.notes()]
            for part in ["", "a", "x", None, 5, ["a"]]:
                with self.assertRaises(error):
                    noter.feed(part)
            with self.assertRaises(error):
                noter.close()
            self.assertEqual(look(noter) + [noter.work(), noter.notes()], before)


class OwnTest(unittest.TestCase):
    def test_two_readers_of_one_table(self):
        before = repr(ENDS)
        one, other = Noter(ENDS), Noter(ENDS)
        one.feed("aaa")
        one.close()
        self.assertEqual((one.notes(), other.notes(), other.work(), other.state()), (2, 0, 0, "open"))
        self.assertEqual(other.feed("aaab"), [(1, 0, 4)])
        self.assertEqual((other.notes(), other.work()), (0, 4))
        self.assertEqual(repr(ENDS), before)

    def test_told_lists_are_the_askers_own(self):
        noter = Noter(SOME)
        noter.feed("bb").append(None)
        self.assertEqual(noter.feed("b"), [(2, 2, 3)])
        noter.feed("").append(None)
        self.assertEqual(noter.feed(""), [])
        self.assertEqual(noter.close(), [])
