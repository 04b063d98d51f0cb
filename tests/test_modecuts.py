import random
import unittest

from nearreach.errors import NoText
from nearreach.machines import machine_of
from nearreach.modecuts import moded_cut, partners
from tests.helpers import (
    EqualToAll, book_machines, is_kept, is_own, many, odd_things, one, plain_moded, row, some_machines, some_text,
    words_upto,
)

A, B, C, D = one("a"), one("b"), one("c"), one("d")
STAY, SHUT = ("stay",), ("shut",)
# Mode 0: a stays, b opens 1, c turns to 2, d shuts. Mode 1: b shuts, runs of a stay, c opens 1, d turns to 2.
# Mode 2: ab stays, d shuts.
MACHINE = machine_of(("abcd", (
    (("aye", A, STAY), ("bee", B, ("open", 1)), ("see", C, ("turn", 2)), ("dee", D, SHUT)),
    (("bee", B, SHUT), ("run", row(A, many(A)), STAY), ("see", C, ("open", 1)), ("dee", D, ("turn", 2))),
    (("both", row(A, B), STAY), ("dee", D, SHUT)),
)))
# Each sign a opens, b shuts, c turns.
PILES = machine_of(("abc", ((("x", A, ("open", 0)), ("y", B, SHUT), ("z", C, ("turn", 0))),)))


class CutTest(unittest.TestCase):
    def test_by_hand(self):
        for start, text, told in [
            (0, "", ([], 0, "end", (0,))), (1, "", ([], 0, "end", (1,))), (2, "", ([], 0, "end", (2,))),
            # Stay.
            (0, "aa", ([(0, 0, 0, 1), (0, 0, 1, 2)], 2, "end", (0,))), (1, "aa", ([(1, 1, 0, 2)], 2, "end", (1,))),
            (2, "abab", ([(2, 0, 0, 2), (2, 0, 2, 4)], 4, "end", (2,))),
            # Open and shut.
            (0, "b", ([(0, 1, 0, 1)], 1, "end", (0, 1))), (0, "bb", ([(0, 1, 0, 1), (1, 0, 1, 2)], 2, "end", (0,))),
            (0, "baaba", ([(0, 1, 0, 1), (1, 1, 1, 3), (1, 0, 3, 4), (0, 0, 4, 5)], 5, "end", (0,))),
            (0, "bcc", ([(0, 1, 0, 1), (1, 2, 1, 2), (1, 2, 2, 3)], 3, "end", (0, 1, 1, 1))),
            # Turn.
            (0, "c", ([(0, 2, 0, 1)], 1, "end", (2,))),
            (0, "cab", ([(0, 2, 0, 1), (2, 0, 1, 3)], 3, "end", (2,))),
            (0, "bdab", ([(0, 1, 0, 1), (1, 3, 1, 2), (2, 0, 2, 4)], 4, "end", (0, 2))),
            (0, "bdda", ([(0, 1, 0, 1), (1, 3, 1, 2), (2, 1, 2, 3), (0, 0, 3, 4)], 4, "end", (0,))),
            # A piece that would shut the last mode isn't taken.
            (0, "d", ([], 0, "low", (0,))), (1, "b", ([], 0, "low", (1,))),
            (2, "abd", ([(2, 0, 0, 2)], 2, "low", (2,))),
            (0, "aada", ([(0, 0, 0, 1), (0, 0, 1, 2)], 2, "low", (0,))),
            (0, "cd", ([(0, 2, 0, 1)], 1, "low", (2,))),
            (0, "bbd", ([(0, 1, 0, 1), (1, 0, 1, 2)], 2, "low", (0,))),
            # No piece.
            (2, "a", ([], 0, "none", (2,))), (2, "abba", ([(2, 0, 0, 2)], 2, "none", (2,))),
            (0, "bdb", ([(0, 1, 0, 1), (1, 3, 1, 2)], 2, "none", (0, 2))), (2, "c", ([], 0, "none", (2,))),
        ]:
            self.assertEqual(moded_cut(MACHINE, start, text), told, (start, text))

    def test_kinds_of_values(self):
        told = moded_cut(MACHINE, 0, "ab")
        self.assertEqual([type(each) for each in told], [list, int, str, tuple])
        self.assertEqual((type(told), type(told[0][0])), (tuple, tuple))

    def test_a_long_text_that_opens_and_shuts(self):
        pieces, place, why, pile = moded_cut(PILES, 0, "a" * 240)
        self.assertEqual((len(pieces), place, why, pile), (240, 240, "end", (0,) * 241))
        self.assertEqual(moded_cut(PILES, 0, "a" * 120 + "b" * 120)[1:], (240, "end", (0,)))
        self.assertEqual(moded_cut(PILES, 0, "a" * 119 + "b" * 121)[1:], (238, "low", (0,)))

    def test_some_machines(self):
        source = random.Random(251)
        whys, deepest, pairs = {}, 0, 0
        for machine in some_machines(250, seed=251) + book_machines(60, seed=251) + [MACHINE, PILES]:
            texts = words_upto(machine[0], 3) + [some_text(source, machine[0], source.randint(4, 30)) for _ in range(5)]
            for text in texts:
                for start in range(len(machine[1])):
                    told, partner = plain_moded(machine, start, text)
                    self.assertEqual(moded_cut(machine, start, text), told, (machine, start, text))
                    self.assertEqual(partners(machine, start, text), partner)
                    whys[told[2]] = whys.get(told[2], 0) + 1
                    deepest = max(deepest, len(told[3]))
                    pairs = max(pairs, len(partner))
        self.assertEqual(set(whys), {"end", "low", "none"})
        self.assertGreater(min(whys.values()), 500)
        self.assertGreater(deepest, 5)
        self.assertGreater(pairs, 2)

    def test_no_text(self):
        for thing in odd_things() + ["abx", "A", "ab\n", ("a",), ["a"], b"a", EqualToAll(), "de"]:
            if repr(thing) == "''":
                continue
            for start in range(3):
                with self.assertRaises(NoText, msg=repr(thing)[:100]):
                    moded_cut(MACHINE, start, thing)
                with self.assertRaises(NoText):
                    partners(MACHINE, start, thing)

    def test_no_text_also_behind_a_stop(self):
        for call in (moded_cut, partners):
            with self.assertRaises(NoText):
                call(MACHINE, 0, "dx")
            with self.assertRaises(NoText):
                call(MACHINE, 2, "aax")

    def test_nothing_is_changed(self):
        for call in (moded_cut, partners):
            is_kept(self, call, MACHINE, 0, "bcaabb")
            is_own(self, call, MACHINE, 0, "bcaabb")
            is_own(self, call, MACHINE, 0, "")


class PartnerTest(unittest.TestCase):
    def test_by_hand(self):
        for start, text, told in [
            (0, "", []), (0, "a", []), (0, "b", []), (0, "bb", [(0, 1)]), (0, "baab", [(0, 2)]), (0, "d", []),
            # One within the other, side by side.
            (0, "bcbb", [(1, 2), (0, 3)]), (0, "bbbb", [(0, 1), (2, 3)]), (0, "abacbabbb", [(3, 4), (1, 6), (7, 8)]),
            (0, "bcbcbb", [(1, 2), (3, 4), (0, 5)]),
            # Turns between.
            (0, "bdd", [(0, 2)]), (0, "bdabd", [(0, 3)]), (0, "bcddb", [(1, 3), (0, 4)]), (0, "cd", []),
            # Left open, or stopped.
            (0, "bcb", [(1, 2)]), (0, "bbd", [(0, 1)]), (0, "bbda", [(0, 1)]), (1, "cbb", [(0, 1)]), (2, "bb", []),
        ]:
            self.assertEqual(partners(MACHINE, start, text), told, (start, text))
            self.assertIs(type(partners(MACHINE, start, text)), list)

    def test_deep(self):
        self.assertEqual(partners(PILES, 0, "a" * 120 + "b" * 120), [(119 - at, 120 + at) for at in range(120)])
        self.assertEqual(partners(PILES, 0, "ab" * 120), [(at, at + 1) for at in range(0, 240, 2)])
        self.assertEqual(partners(PILES, 0, "acb" * 80), [(at, at + 2) for at in range(0, 240, 3)])

    def test_apart_or_within(self):
        source = random.Random(252)
        looked = 0
        for _ in range(60):
            told = partners(PILES, 0, some_text(source, "aabbc", 60))
            self.assertEqual([j for i, j in told], sorted(j for i, j in told))
            for i, j in told:
                self.assertLess(i, j)
                for k, m in told:
                    self.assertTrue(j < k or m < i or i <= k < m <= j or k <= i < j <= m)
                    looked += 1
        self.assertGreater(looked, 1000)
