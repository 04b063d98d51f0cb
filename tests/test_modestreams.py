import random
import unittest

from nearreach.errors import Closed, NoText, Stopped
from nearreach.machines import machine_of, moded_reach
from nearreach.modecuts import moded_cut
from nearreach.modestreams import ModeStream
from nearreach.streams import Stream
from tests.helpers import (
    EqualToAll, book_machines, grown_tables, many, odd_things, one, plain_first, plain_moded, row, some_machines,
    some_parts, some_text,
    words_upto,
)

A, B, C, D = one("a"), one("b"), one("c"), one("d")
STAY, SHUT = ("stay",), ("shut",)
# Mode 0: a stays, abab opens 1, b turns to 1. Mode 1: a shuts, ab stays, abb opens 0.
MACHINE = machine_of(("abc", (
    (("x", A, STAY), ("y", row(A, B, A, B), ("open", 1)), ("z", B, ("turn", 1))),
    (("x", A, SHUT), ("y", row(A, B), STAY), ("z", row(A, B, B), ("open", 0))),
)))
# a shuts, aa stays, aaab shuts: a piece that would shut the last mode while a longer piece may still come.
LOW = machine_of(("ab", ((("x", A, SHUT), ("y", row(A, A), STAY), ("z", row(A, A, A, B), SHUT)),)))
# Each sign a opens, b shuts, c turns.
PILES = machine_of(("abc", ((("x", A, ("open", 0)), ("y", B, SHUT), ("z", C, ("turn", 0))),)))
STILL = machine_of(("ab", ((), (("x", A, ("turn", 0)),))))
METHODS = ["state", "seen", "fault", "kept", "pile"]


class Plain:
    """A reader by the document's words: what is settled is what all texts have that begin with what was fed."""

    def __init__(self, machine, start):
        self.machine, self.start = machine, start
        self.text, self.told, self.state, self.fault = "", [], "open", None

    def cut(self, text):
        """The moded cut, with the first piece at the place of the stop by the uppermost mode's table."""
        pieces, place, why, pile = plain_moded(self.machine, self.start, text)[0]
        return pieces, place, why, plain_first((self.machine[0], *self.machine[1][pile[-1]][:2]), text, place)

    def feed(self, part):
        self.text += part
        # A word that leads to a kind needs no more signs than there are rooms.
        rooms = max(len(goes) for goes, kinds, deeds in self.machine[1])
        cuts = [self.cut(self.text + word) for word in words_upto(self.machine[0], rooms)]
        settled = [piece for piece in cuts[0][0] if all(piece in pieces for pieces, *stop in cuts)]
        stops = {tuple(stop) for pieces, *stop in cuts}
        if len(stops) == 1:
            place, why, first = max(stops)
            if place < len(self.text):
                self.state, self.fault = "stopped", (place, why)
        return self.tell(settled)

    def close(self):
        pieces, place, why, first = self.cut(self.text)
        self.state, self.fault = ("closed", None) if why == "end" else ("stopped", (place, why))
        return self.tell(pieces)

    def tell(self, pieces):
        told = pieces[len(self.told):]
        assert pieces[:len(self.told)] == self.told
        self.told = pieces
        return told

    def look(self):
        place = self.told[-1][3] if self.told else 0
        pile = [self.start]
        for mode, kind, low, high in self.told:
            word, *target = self.machine[1][mode][2][kind]
            pile = {"stay": pile, "shut": pile[:-1], "open": pile + target, "turn": pile[:-1] + target}[word]
        last = plain_first((self.machine[0], *self.machine[1][pile[-1]][:2]), self.text, place)
        kept = "" if last is None or self.state != "open" else self.text[last[1]:]
        return [self.state, len(self.text), self.fault, kept, tuple(pile)]


def look(stream):
    return [getattr(stream, name)() for name in METHODS]


class ModeStreamTest(unittest.TestCase):
    def gone(self, machine, start, parts):
        """Both readers side by side to the end; how that was."""
        stream, plain = ModeStream(machine, start), Plain(machine, start)
        self.assertEqual(look(stream), plain.look())
        for part in parts:
            told = stream.feed(part)
            self.assertIs(type(told), list)
            self.assertEqual(told, plain.feed(part), (machine, start, parts))
            self.assertEqual(look(stream), plain.look(), (machine, start, parts))
            self.assertIs(type(stream.pile()), tuple)
            if plain.state == "stopped":
                with self.assertRaises(Stopped):
                    stream.feed("")
                with self.assertRaises(Stopped):
                    stream.close()
                self.assertEqual(look(stream), plain.look())
                return "feed", plain.fault[1]
        self.assertEqual(stream.close(), plain.close(), (machine, start, parts))
        self.assertEqual(look(stream), plain.look(), (machine, start, parts))
        with self.assertRaises(Closed if plain.state == "closed" else Stopped):
            stream.feed("")
        self.assertEqual(look(stream), plain.look())
        return "close", plain.fault and plain.fault[1]

    def test_by_hand(self):
        stream = ModeStream(MACHINE, 0)
        self.assertEqual(look(stream), ["open", 0, None, "", (0,)])
        for part, told, kept, pile in [
            ("a", [], "", (0,)), ("ba", [], "ba", (0,)), ("", [], "ba", (0,)), ("b", [(0, 1, 0, 4)], "", (0, 1)),
            # Mode 1: ab may become abb.
            ("ab", [], "", (0, 1)), ("b", [(1, 2, 4, 7)], "", (0, 1, 0)), ("b", [(0, 2, 7, 8)], "", (0, 1, 1)),
            ("aa", [(1, 0, 8, 9)], "", (0, 1)), ("c", [(1, 0, 9, 10)], "", (0,)),
        ]:
            self.assertEqual(stream.feed(part), told, part)
            self.assertEqual((stream.kept(), stream.pile()), (kept, pile), part)
        # The c stands where mode 0 has no piece.
        self.assertEqual(look(stream), ["stopped", 11, (10, "none"), "", (0,)])

    def test_signs_are_gone_over_again_by_the_mode_that_comes(self):
        # In mode 0 a is taken where abab doesn't come; what stands behind it is read anew.
        stream = ModeStream(MACHINE, 0)
        self.assertEqual([stream.feed("aba"), stream.kept()], [[], "ba"])
        self.assertEqual(stream.feed("a"), [(0, 0, 0, 1), (0, 2, 1, 2)])
        # The b turned to mode 1, where the first a would shut the last mode.
        self.assertEqual(look(stream), ["stopped", 4, (2, "low"), "", (1,)])

    def test_low_only_when_no_longer_piece_can_come(self):
        stream = ModeStream(LOW, 0)
        self.assertEqual([stream.feed("a"), look(stream)], [[], ["open", 1, None, "", (0,)]])
        # Closed here the piece would shut the last mode.
        closed = stream.twin()
        self.assertEqual([closed.close(), look(closed)], [[], ["stopped", 1, (0, "low"), "", (0,)]])
        stopped = stream.twin()
        self.assertEqual([stopped.feed("b"), look(stopped)], [[], ["stopped", 2, (0, "low"), "", (0,)]])
        self.assertEqual([stream.feed("a"), stream.feed("a"), stream.kept()], [[], [], "a"])
        later = stream.twin()
        # aaab is the longest piece, and shuts.
        self.assertEqual([later.feed("b"), look(later)], [[], ["stopped", 4, (0, "low"), "", (0,)]])
        # Else aa is a piece, and then again a or more.
        self.assertEqual([stream.feed("a"), look(stream)], [[(0, 1, 0, 2)], ["open", 4, None, "", (0,)]])
        self.assertEqual([stream.close(), look(stream)], [[(0, 1, 2, 4)], ["closed", 4, None, "", (0,)]])

    def test_low_at_once(self):
        for machine, start, text in [(PILES, 0, "b"), (MACHINE, 1, "ac")]:
            stream = ModeStream(machine, start)
            self.assertEqual([stream.feed(text), stream.fault()], [[], (0, "low")])
        stream = ModeStream(PILES, 0)
        self.assertEqual(stream.feed("abba"), [(0, 0, 0, 1), (0, 1, 1, 2)])
        self.assertEqual(look(stream), ["stopped", 4, (2, "low"), "", (0,)])

    def test_none_only_where_a_sign_stands(self):
        stream = ModeStream(STILL, 0)
        self.assertEqual([stream.feed(""), look(stream)], [[], ["open", 0, None, "", (0,)]])
        self.assertEqual([stream.twin().close(), stream.state()], [[], "open"])
        self.assertEqual([stream.feed("a"), look(stream)], [[], ["stopped", 1, (0, "none"), "", (0,)]])
        stream = ModeStream(STILL, 1)
        self.assertEqual([stream.feed("a"), look(stream)], [[(1, 0, 0, 1)], ["open", 1, None, "", (0,)]])
        self.assertEqual([stream.feed("a"), look(stream)], [[], ["stopped", 2, (1, "none"), "", (0,)]])

    def test_close_with_nothing_fed(self):
        for machine in (MACHINE, LOW, PILES, STILL):
            for start in range(len(machine[1])):
                stream = ModeStream(machine, start)
                self.assertEqual([stream.close(), look(stream)], [[], ["closed", 0, None, "", (start,)]])

    def test_close_with_a_rest(self):
        for text, fed, told, fault, pile in [
            ("a", [], [(0, 0, 0, 1)], None, (0,)), ("ab", [], [(0, 0, 0, 1), (0, 2, 1, 2)], None, (1,)),
            ("aba", [], [(0, 0, 0, 1), (0, 2, 1, 2)], (2, "low"), (1,)), ("b", [(0, 2, 0, 1)], [], None, (1,)),
            ("bab", [(0, 2, 0, 1)], [(1, 1, 1, 3)], None, (1,)),
            ("abababb", [(0, 1, 0, 4), (1, 2, 4, 7)], [], None, (0, 1, 0)),
            ("ababa", [(0, 1, 0, 4)], [(1, 0, 4, 5)], None, (0,)),
        ]:
            stream = ModeStream(MACHINE, 0)
            self.assertEqual([stream.feed(text), stream.close()], [fed, told], text)
            self.assertEqual(look(stream), ["stopped" if fault else "closed", len(text), fault, "", pile], text)
        # A stop for want of a piece, behind a piece of the rest.
        machine = machine_of(("ab", ((("x", A, STAY), ("y", row(A, B, A), STAY)),)))
        stream = ModeStream(machine, 0)
        self.assertEqual([stream.feed("ab"), stream.kept()], [[], "b"])
        self.assertEqual([stream.close(), stream.fault(), stream.state()], [[(0, 0, 0, 1)], (1, "none"), "stopped"])

    def test_settled_just_when(self):
        source = random.Random(261)
        ends = {}
        for machine in some_machines(80, seed=261) + book_machines(80, seed=261) + [LOW, STILL]:
            for start in range(len(machine[1])):
                for _ in range(2):
                    text = some_text(source, machine[0], source.randint(0, 9))
                    for parts in [[text], list(text), some_parts(source, text)]:
                        end = self.gone(machine, start, parts)
                        ends[end] = ends.get(end, 0) + 1
        self.assertEqual(set(ends), {("feed", "none"), ("feed", "low"), ("close", None), ("close", "none"),
                                     ("close", "low")})
        self.assertGreater(min(ends.values()), 20)

    def test_all_short_texts(self):
        for machine in [LOW, STILL, machine_of(("ab", (
                (("x", A, ("open", 1)), ("y", row(A, many(B), A), STAY)),
                (("x", many(B), SHUT), ("y", A, ("turn", 0))))))]:
            for start in range(len(machine[1])):
                for text in words_upto("ab", 6):
                    self.gone(machine, start, list(text))
                    self.gone(machine, start, [text])

    def test_long_texts_against_the_moded_cut(self):
        source = random.Random(262)
        whys = set()
        for machine in some_machines(60, seed=262, most=6, kinds=(-1, 0, 0, 1, 2)) + book_machines(40,
                                                                                                   seed=262) + [MACHINE,
                                                                                                                LOW,
                                                                                                                PILES]:
            for start in range(len(machine[1])):
                text = some_text(source, machine[0], 240)
                pieces, place, why, pile = moded_cut(machine, start, text)
                for parts in [[text], list(text), some_parts(source, text)]:
                    stream, told = ModeStream(machine, start), []
                    for part in parts:
                        if stream.state() == "open":
                            told += stream.feed(part)
                    if stream.state() == "open":
                        self.assertEqual(stream.seen(), 240)
                        told += stream.close()
                    self.assertEqual(told, pieces)
                    self.assertEqual(stream.fault(), None if why == "end" else (place, why))
                    self.assertEqual((stream.state(), stream.pile()), ("closed" if why == "end" else "stopped", pile))
                whys.add(why)
        self.assertEqual(whys, {"end", "low", "none"})

    def test_a_mode_opened_with_each_sign(self):
        stream = ModeStream(PILES, 0)
        self.assertEqual(stream.feed("a" * 240), [(0, 0, at, at + 1) for at in range(240)])
        self.assertEqual((stream.pile(), stream.kept(), stream.seen()), ((0,) * 241, "", 240))
        self.assertEqual([stream.close(), stream.state(), len(stream.pile())], [[], "closed", 241])
        stream = ModeStream(PILES, 0)
        for at in range(240):
            self.assertEqual(stream.feed("a"), [(0, 0, at, at + 1)])
            self.assertEqual(len(stream.pile()), at + 2)

    def test_many_signs_to_go_over_again(self):
        machine = machine_of(("abc", (
            (("x", A, ("turn", 1)), ("y", row(many(A), B), STAY)), (("x", A, ("turn", 0)), ("c", C, STAY)))))
        stream = ModeStream(machine, 0)
        self.assertEqual(stream.feed("a" * 239), [])
        self.assertEqual(stream.kept(), "a" * 238)
        self.assertEqual(stream.feed("c"), [(at % 2, 0, at, at + 1) for at in range(239)] + [(1, 1, 239, 240)])

    def test_a_mode_alone_reads_as_the_reader_in_streams(self):
        source = random.Random(263)
        for table in grown_tables(40, seed=263, kinds=(-1, 0, 1)):
            machine = (table[0], ((*table[1:], (STAY,) * 2),))
            stream, plain = ModeStream(machine, 0), Stream(table)
            for part in some_parts(source, some_text(source, table[0], 20)):
                if plain.state() == "open":
                    self.assertEqual([piece[1:] for piece in stream.feed(part)], plain.feed(part))
                    self.assertEqual((stream.kept(), stream.state()), (plain.kept(), plain.state()))
            self.assertEqual(stream.fault(), None if plain.fault() is None else (plain.fault(), "none"))


class RefusalTest(unittest.TestCase):
    def test_no_text(self):
        stream = ModeStream(MACHINE, 0)
        stream.feed("ababab")
        before = look(stream)
        for thing in odd_things() + ["abx", "A", "a\n", ("a",), ["a"], b"a", EqualToAll()]:
            if repr(thing) == "''":
                continue
            with self.assertRaises(NoText):
                stream.feed(thing)
            self.assertEqual(look(stream), before)
        self.assertEqual(stream.feed("b"), [(1, 2, 4, 7)])

    def test_closed_and_stopped_go_ahead(self):
        closed, none, low, by_close = [ModeStream(MACHINE, start) for start in (0, 0, 1, 1)]
        closed.feed("ab")
        closed.close()
        none.feed("c")
        low.feed("aa")
        by_close.feed("a")
        by_close.close()
        self.assertEqual([each.fault() for each in (closed, none, low, by_close)],
                         [None, (0, "none"), (0, "low"), (0, "low")])
        for stream, error in [(closed, Closed), (none, Stopped), (low, Stopped), (by_close, Stopped)]:
            before = look(stream)
            for part in ["", "a", "x", None, 5, ["a"], "x" * 1000]:
                with self.assertRaises(error):
                    stream.feed(part)
            with self.assertRaises(error):
                stream.close()
            self.assertEqual(look(stream), before)

    def test_seen_of_a_reader_that_stops_within_a_part(self):
        stream = ModeStream(MACHINE, 0)
        self.assertEqual(stream.feed("acaaab"), [(0, 0, 0, 1)])
        self.assertEqual(look(stream), ["stopped", 6, (1, "none"), "", (0,)])


class KeptTest(unittest.TestCase):
    def test_fewer_than_the_reach(self):
        source = random.Random(264)
        found = set()
        for machine in some_machines(250, seed=264, kinds=(-1, 0, 0, 1)):
            number = moded_reach(machine)
            if number is None:
                continue
            for start in range(len(machine[1])):
                stream = ModeStream(machine, start)
                for sign in some_text(source, machine[0], 40):
                    if stream.state() == "open":
                        stream.feed(sign)
                        self.assertLessEqual(len(stream.kept()), max(number - 1, 0))
                        found.add((number, len(stream.kept())))
        self.assertTrue({(0, 0), (1, 0), (2, 1), (3, 2)} <= found, found)


class TwinTest(unittest.TestCase):
    def test_twins_go_on_apart(self):
        stream = ModeStream(MACHINE, 0)
        stream.feed("abababb")
        stream.feed("aba")
        before = look(stream)
        self.assertEqual(before, ["open", 10, None, "ba", (0, 1, 0)])
        other = stream.twin()
        self.assertIsInstance(other, ModeStream)
        self.assertIsNot(other, stream)
        self.assertEqual(look(other), before)
        self.assertEqual(other.feed("b"), [(0, 1, 7, 11)])
        self.assertEqual(look(stream), before)
        third = stream.twin()
        self.assertEqual(third.close(), [(0, 0, 7, 8), (0, 2, 8, 9), (1, 0, 9, 10)])
        self.assertEqual(look(stream), before)
        self.assertEqual(stream.feed("c"), [(0, 0, 7, 8), (0, 2, 8, 9), (1, 0, 9, 10)])
        self.assertEqual([stream.fault(), other.fault(), third.fault()], [(10, "none"), None, None])
        self.assertEqual([each.pile() for each in (stream, other, third)], [(0, 1), (0, 1, 0, 1), (0, 1)])

    def test_twins_of_ended_readers(self):
        for text, closing, error in [("ab", True, Closed), ("c", False, Stopped), ("bac", False, Stopped)]:
            stream = ModeStream(MACHINE, 0)
            stream.feed(text)
            if closing:
                stream.close()
            self.assertEqual(look(stream.twin()), look(stream))
            with self.assertRaises(error):
                stream.twin().feed("a")
            with self.assertRaises(error):
                stream.twin().close()

    def test_at_each_moment(self):
        source = random.Random(265)
        for machine in some_machines(80, seed=265) + [MACHINE, LOW]:
            stream = ModeStream(machine, 0)
            for sign in [*some_text(source, machine[0], 12), None]:
                twin = stream.twin()
                twins = twin.twin()
                if stream.state() == "stopped":
                    break
                told = stream.close() if sign is None else stream.feed(sign)
                for other in (twin, twins):
                    self.assertEqual(other.close() if sign is None else other.feed(sign), told)
                    self.assertEqual(look(other), look(stream))


class OwnTest(unittest.TestCase):
    def test_two_readers_of_one_machine(self):
        before = repr(MACHINE)
        one_reader, other = ModeStream(MACHINE, 0), ModeStream(MACHINE, 0)
        one_reader.feed("abab")
        self.assertEqual((one_reader.pile(), other.pile(), other.seen()), ((0, 1), (0,), 0))
        other.feed("c")
        self.assertEqual((one_reader.state(), other.state()), ("open", "stopped"))
        self.assertEqual(repr(MACHINE), before)

    def test_told_lists_are_the_askers_own(self):
        stream = ModeStream(PILES, 0)
        told = stream.feed("aa")
        told.append(None)
        told[0] = None
        self.assertEqual(stream.feed("b"), [(0, 1, 2, 3)])
        stream.feed("").append(None)
        self.assertEqual(stream.feed(""), [])
        stream.close().append(None)
        self.assertEqual(look(stream), look(stream))
