import random
import unittest

from nearreach.errors import Closed, NoText, Stopped
from nearreach.making import table_of
from nearreach.reaches import reach
from nearreach.steps import needing
from nearreach.streams import Stream, resumed
from tests.helpers import (
    ENDLESS, FARTHEST, EqualToAll, book, grown_tables, many, odd_things, one, plain_cut, plain_first, row, small_tables,
    some_parts, some_text, times, walk, words_upto,
)

A, B, C = one("a"), one("b"), one("c")
# a, abab and b.
SOME = table_of(book(A, row(A, B, A, B), B, tongue="abc"))
# No word has a kind.
STILL = ("ab", ((1, 0), (0, 1)), (-1, -1))
# Words of any count of a.
MANY = table_of(book(many(A)))
METHODS = ["state", "seen", "fault", "kept", "stand"]


class Plain:
    """A reader by the document's words: what is settled is what all texts have that begin with what was fed."""

    def __init__(self, table):
        self.table, self.text, self.told, self.state, self.fault = table, "", [], "open", None

    def feed(self, part):
        self.text += part
        # A word that leads to a kind needs no more signs than there are rooms.
        more = words_upto(self.table[0], len(self.table[1]))
        cuts = [plain_cut(self.table, self.text + word) for word in more]
        settled = [piece for piece in cuts[0][0] if all(piece in pieces for pieces, place in cuts)]
        places = {place for pieces, place in cuts}
        if len(places) == 1 and max(places) < len(self.text):
            self.state, self.fault = "stopped", max(places)
        return self.tell(settled)

    def close(self):
        pieces, place = plain_cut(self.table, self.text)
        self.state, self.fault = ("closed", None) if place == len(self.text) else ("stopped", place)
        return self.tell(pieces)

    def tell(self, pieces):
        told = pieces[len(self.told):]
        assert pieces[:len(self.told)] == self.told
        self.told = pieces
        return told

    def stand(self):
        start = self.told[-1][2] if self.told else 0
        if self.state != "open":
            return self.state, start, len(self.text), 0, None, ""
        last = plain_first(self.table, self.text, start)
        kept = "" if last is None else self.text[last[1]:]
        return "open", start, len(self.text), walk(self.table, 0, self.text[start:]), last, kept


def look(stream):
    return [getattr(stream, name)() for name in METHODS]


class StreamTest(unittest.TestCase):
    def same(self, stream, plain):
        stand = plain.stand()
        self.assertEqual(stream.stand(), stand)
        self.assertIs(type(stream.stand()), tuple)
        self.assertEqual(look(stream), [plain.state, len(plain.text), plain.fault, stand[5], stand])

    def gone(self, table, parts):
        """Both readers side by side to the end; how that was."""
        stream, plain = Stream(table), Plain(table)
        self.same(stream, plain)
        for part in parts:
            told = stream.feed(part)
            self.assertIs(type(told), list)
            self.assertEqual(told, plain.feed(part), (table, parts))
            self.same(stream, plain)
            if plain.state == "stopped":
                with self.assertRaises(Stopped):
                    stream.feed("")
                with self.assertRaises(Stopped):
                    stream.close()
                self.same(stream, plain)
                return "stopped by feed"
        self.assertEqual(stream.close(), plain.close(), (table, parts))
        self.same(stream, plain)
        with self.assertRaises(Closed if plain.state == "closed" else Stopped):
            stream.feed("")
        self.same(stream, plain)
        return plain.state + " by close"

    def test_by_hand(self):
        stream = Stream(SOME)
        self.assertEqual(stream.stand(), ("open", 0, 0, 0, None, ""))
        for part, told, kept, start in [
            ("a", [], "", 0), ("b", [], "b", 0), ("", [], "b", 0), ("a", [], "ba", 0),
            ("a", [(0, 0, 1), (2, 1, 2), (0, 2, 3)], "", 3), ("bab", [(1, 3, 7)], "", 7), ("b", [(2, 7, 8)], "", 8),
            ("abaabab", [(0, 8, 9), (2, 9, 10), (0, 10, 11), (1, 11, 15)], "", 15),
        ]:
            self.assertEqual(stream.feed(part), told)
            self.assertEqual((stream.kept(), stream.stand()[1], stream.state()), (kept, start, "open"))
        self.assertEqual(stream.feed("cab"), [])
        self.assertEqual(look(stream), ["stopped", 18, 15, "", ("stopped", 15, 18, 0, None, "")])

    def test_told_as_soon_as_there_is_no_hope(self):
        stream = Stream(SOME)
        # Behind abab and behind b no longer piece can come, so no sign more is needed.
        self.assertEqual(stream.feed("abab"), [(1, 0, 4)])
        self.assertEqual(stream.feed("b"), [(2, 4, 5)])
        # Behind a one may.
        self.assertEqual(stream.feed("a"), [])
        self.assertEqual(stream.feed("c"), [(0, 5, 6)])
        self.assertEqual((stream.state(), stream.fault(), stream.seen()), ("stopped", 6, 7))

    def test_a_longer_piece_may_still_come(self):
        stream = Stream(MANY)
        self.assertEqual([stream.feed("a" * 100), stream.feed("a" * 139)], [[], []])
        self.assertEqual(stream.kept(), "")
        self.assertEqual(stream.twin().close(), [(0, 0, 239)])
        self.assertEqual(stream.feed("b"), [(0, 0, 239)])
        self.assertEqual((stream.state(), stream.fault()), ("stopped", 239))

    def test_a_fault_only_where_a_sign_stands(self):
        stream = Stream(STILL)
        self.assertEqual([stream.feed(""), stream.state(), stream.fault()], [[], "open", None])
        self.assertEqual(stream.twin().close(), [])
        self.assertEqual([stream.feed("b"), stream.state(), stream.fault()], [[], "stopped", 0])
        stream = Stream(STILL)
        self.assertEqual([stream.close(), stream.state(), stream.fault()], [[], "closed", None])

    def test_a_fault_only_where_no_piece_can_come(self):
        table = table_of(book(row(A, A, A)))
        stream = Stream(table)
        self.assertEqual([stream.feed("aa"), stream.state()], [[], "open"])
        self.assertEqual([stream.twin().feed("b"), stream.twin().feed("a")], [[], [(0, 0, 3)]])
        stopped = stream.twin()
        stopped.feed("b")
        self.assertEqual((stopped.state(), stopped.fault(), stopped.seen(), stopped.kept()), ("stopped", 0, 3, ""))
        self.assertEqual([stream.close(), stream.state(), stream.fault(), stream.seen()], [[], "stopped", 0, 2])

    def test_close(self):
        for text, told, state, fault in [
            ("", [], "closed", None), ("a", [(0, 0, 1)], "closed", None), ("b", [], "closed", None),
            ("ab", [(0, 0, 1), (2, 1, 2)], "closed", None), ("aba", [(0, 0, 1), (2, 1, 2), (0, 2, 3)], "closed", None),
            ("aaba", [(0, 1, 2), (2, 2, 3), (0, 3, 4)], "closed", None),
        ]:
            stream = Stream(SOME)
            stream.feed(text)
            self.assertEqual([stream.close(), stream.state(), stream.fault(), stream.seen(), stream.kept()],
                             [told, state, fault, len(text), ""], text)
        # Behind a piece of the rest a fault.
        stream = Stream(table_of(book(A, row(A, B, A, B))))
        self.assertEqual(stream.feed("aba"), [])
        self.assertEqual([stream.close(), stream.state(), stream.fault()], [[(0, 0, 1)], "stopped", 1])
        self.assertEqual(stream.stand(), ("stopped", 1, 3, 0, None, ""))

    def test_a_rest_that_is_cut_in_several_goes(self):
        # From each a on a b at the end might still come.
        table = table_of(book(A, row(many(A), B)))
        stream = Stream(table)
        self.assertEqual(stream.feed("aaaa"), [])
        self.assertEqual(stream.kept(), "aaa")
        self.assertEqual(stream.twin().feed("b"), [(1, 0, 5)])
        self.assertEqual(stream.close(), [(0, at, at + 1) for at in range(4)])
        self.assertEqual(stream.stand(), ("closed", 4, 4, 0, None, ""))

    def test_settled_just_when(self):
        ends = set()
        source = random.Random(121)
        for table in small_tables(120, seed=121) + [MANY, STILL]:
            for _ in range(4):
                text = some_text(source, table[0], source.randint(0, 9))
                for parts in [[text], list(text), some_parts(source, text)]:
                    ends.add(self.gone(table, parts))
        self.assertEqual(ends, {"stopped by feed", "closed by close", "stopped by close"})

    def test_all_short_texts(self):
        for table in [table_of(book(A, row(A, B, A))), table_of(book(row(A, many(B), A), B)), MANY]:
            for text in words_upto("ab", 6):
                self.gone(table, list(text))

    def test_long_texts(self):
        source = random.Random(122)
        for table in grown_tables(60, seed=122, kinds=(-1, 0, 1)) + [SOME, ENDLESS, FARTHEST, MANY]:
            text = some_text(source, table[0], 240)
            pieces, place = plain_cut(table, text)
            for parts in [[text], list(text), some_parts(source, text)]:
                stream, told = Stream(table), []
                for part in parts:
                    if stream.state() == "open":
                        told += stream.feed(part)
                if stream.state() == "open":
                    self.assertEqual(stream.seen(), 240)
                    told += stream.close()
                self.assertEqual(told, pieces)
                self.assertEqual(stream.fault(), None if place == 240 else place)

    def test_many_signs_to_go_over_again(self):
        table = table_of(book(A, row(many(A), B), C, tongue="abc"))
        stream = Stream(table)
        self.assertEqual(stream.feed("a" * 239), [])
        self.assertEqual(stream.kept(), "a" * 238)
        self.assertEqual(stream.feed("c"), [(0, at, at + 1) for at in range(239)] + [(2, 239, 240)])

    def test_seen_of_a_reader_that_stops_within_a_part(self):
        stream = Stream(SOME)
        self.assertEqual(stream.feed("abababcab"), [(1, 0, 4), (0, 4, 5), (2, 5, 6)])
        self.assertEqual(look(stream), ["stopped", 9, 6, "", ("stopped", 6, 9, 0, None, "")])
        for part in ["a", "", None]:
            with self.assertRaises(Stopped):
                stream.feed(part)
        self.assertEqual(stream.seen(), 9)


class RefusalTest(unittest.TestCase):
    def test_no_text(self):
        stream = Stream(SOME)
        stream.feed("ab")
        before = look(stream)
        for thing in odd_things() + ["abx", "A", "a\n", ("a",), ["a"], b"a", EqualToAll()]:
            if repr(thing) == "''":
                continue
            with self.assertRaises(NoText):
                stream.feed(thing)
            self.assertEqual(look(stream), before)
        self.assertEqual(stream.feed("ab"), [(1, 0, 4)])

    def test_closed_and_stopped_go_ahead(self):
        closed, stopped = Stream(SOME), Stream(SOME)
        closed.feed("ab")
        closed.close()
        stopped.feed("ac")
        self.assertEqual([closed.state(), stopped.state()], ["closed", "stopped"])
        also = Stream(table_of(book(row(A, A))))
        also.feed("a")
        also.close()
        for stream, error in [(closed, Closed), (stopped, Stopped), (also, Stopped)]:
            before = look(stream)
            for part in ["", "a", "x", None, 5, ["a"], "x" * 1000]:
                with self.assertRaises(error):
                    stream.feed(part)
            with self.assertRaises(error):
                stream.close()
            self.assertEqual(look(stream), before)


class KeptTest(unittest.TestCase):
    def test_fewer_than_the_reach(self):
        source = random.Random(123)
        found = set()
        for table in small_tables(200, seed=123) + [SOME, FARTHEST, MANY]:
            number = reach(table)
            if number is None:
                continue
            most = 0
            for _ in range(5):
                stream = Stream(table)
                for sign in some_text(source, table[0], 40):
                    if stream.state() == "open":
                        stream.feed(sign)
                        most = max(most, len(stream.kept()))
            self.assertLessEqual(most, max(number - 1, 0))
            if number > 0:
                u, z = needing(table)
                stream = Stream(table)
                stream.feed(u + z[:-1])
                self.assertEqual((stream.kept(), stream.state()), (z[:-1], "open"))
            found.add(number)
        self.assertTrue({0, 1, 2, 3, 32} <= found)

    def test_no_stretch_with_a_kind(self):
        stream = Stream(table_of(book(row(A, A, B), row(A, A, B, B, B))))
        for sign, kept in [("a", ""), ("a", ""), ("b", ""), ("b", "b")]:
            stream.feed(sign)
            self.assertEqual(stream.kept(), kept)
        stream.feed("a")
        self.assertEqual((stream.state(), stream.kept()), ("stopped", ""))


class TwinTest(unittest.TestCase):
    def test_twins_go_on_apart(self):
        stream = Stream(SOME)
        stream.feed("aba")
        other = stream.twin()
        self.assertIsInstance(other, Stream)
        self.assertIsNot(other, stream)
        self.assertEqual(look(other), look(stream))
        self.assertEqual(other.feed("b"), [(1, 0, 4)])
        self.assertEqual(stream.stand(), ("open", 0, 3, walk(SOME, 0, "aba"), (0, 1), "ba"))
        third = stream.twin()
        self.assertEqual(stream.feed("a"), [(0, 0, 1), (2, 1, 2), (0, 2, 3)])
        self.assertEqual(third.close(), [(0, 0, 1), (2, 1, 2), (0, 2, 3)])
        self.assertEqual([stream.state(), other.state(), third.state()], ["open", "open", "closed"])
        self.assertEqual(other.stand()[:3], ("open", 4, 4))

    def test_twins_of_ended_readers(self):
        stream = Stream(SOME)
        stream.feed("a")
        stream.close()
        with self.assertRaises(Closed):
            stream.twin().feed("a")
        stream = Stream(SOME)
        stream.feed("ac")
        self.assertEqual(look(stream.twin()), look(stream))
        with self.assertRaises(Stopped):
            stream.twin().close()

    def test_resumed_at_each_moment(self):
        source = random.Random(124)
        for table in small_tables(100, seed=124) + [SOME, ENDLESS, MANY]:
            text = some_text(source, table[0], 12)
            stream = Stream(table)
            for sign in [*text, None]:
                again, twin = resumed(table, stream.stand()), stream.twin()
                for other in (again, twin):
                    self.assertIsInstance(other, Stream)
                    self.assertEqual(look(other), look(stream))
                if stream.state() == "stopped":
                    for other in (again, twin):
                        with self.assertRaises(Stopped):
                            other.feed("")
                    break
                told = stream.close() if sign is None else stream.feed(sign)
                for other in (again, twin):
                    self.assertEqual(other.close() if sign is None else other.feed(sign), told)
                    self.assertEqual(look(other), look(stream))
            self.assertEqual(look(resumed(table, stream.stand())), look(stream))

    def test_resumed_closed(self):
        stream = Stream(SOME)
        stream.feed("ab")
        stream.close()
        with self.assertRaises(Closed):
            resumed(SOME, stream.stand()).feed("a")
        self.assertEqual(resumed(SOME, stream.stand()).stand(), ("closed", 2, 2, 0, None, ""))


class OwnTest(unittest.TestCase):
    def test_two_readers_of_one_table(self):
        before = repr(SOME)
        one, other = Stream(SOME), Stream(SOME)
        self.assertEqual([one.feed("aba"), other.feed("b"), one.feed("b"), other.feed("b")],
                         [[], [(2, 0, 1)], [(1, 0, 4)], [(2, 1, 2)]])
        one.close()
        self.assertEqual((one.state(), other.state()), ("closed", "open"))
        self.assertEqual(repr(SOME), before)

    def test_told_lists_are_the_askers_own(self):
        stream = Stream(SOME)
        told = stream.feed("bb")
        told.append(None)
        told[0] = None
        self.assertEqual(stream.feed("ba"), [(2, 2, 3)])
        empty = stream.feed("")
        empty.append(None)
        self.assertEqual(stream.feed(""), [])
        twin = stream.twin()
        told = stream.close()
        self.assertEqual(told, [(0, 3, 4)])
        told.clear()
        self.assertEqual(twin.close(), [(0, 3, 4)])

    def test_asked_again(self):
        stream = Stream(SOME)
        stream.feed("aba")
        self.assertEqual(look(stream), look(stream))

    def test_times(self):
        stream = Stream(table_of(book(times(A, 2, 3), B)))
        self.assertEqual([stream.feed(part) for part in ["a", "a", "b", "aaaaa"]],
                         [[], [], [(0, 0, 2), (1, 2, 3)], [(0, 3, 6)]])
        self.assertEqual([stream.close(), stream.state()], [[(0, 6, 8)], "closed"])
