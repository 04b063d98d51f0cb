import itertools
import unittest

from nearreach.endings import endings, endings_hold, takes
from nearreach.shapes import parts_of
from tests.helpers import (
    changed, either, is_kept, many, odd_things, one, row, some_shapes, stretches_taken, times, words_upto,
)

A, B = one("a"), one("b")
# A part that takes the word without signs, and more.
LOOSE = either(row(), A)


def plain_endings(shape, word):
    told = []
    for part in parts_of(shape):
        taken = stretches_taken(part, word)
        places = range(len(word) + 1)
        told.append(tuple(tuple(end for end in places if at <= end and word[at:end] in taken) for at in places))
    return tuple(told)


class EndingsTest(unittest.TestCase):
    def test_each_kind(self):
        for shape, word, told in [
            (one("ab"), "bac", (((1,), (2,), (), ()),)),
            (row(), "a", (((0,), (1,)),)),
            (row(A, B), "aba", (((2,), (), (), ()), ((1,), (), (3,), ()), ((), (2,), (), ()))),
            (either(A, row()), "ab", (((0, 1), (1,), (2,)), ((1,), (), ()), ((0,), (1,), (2,)))),
            (many(A), "aab", (((0, 1, 2), (1, 2), (2,), (3,)), ((1,), (2,), (), ()))),
            (times(A, 2, 3), "aaaa", (
                ((2, 3), (3, 4), (4,), (), ()), ((1,), (2,), (3,), (4,), ()))),
            (times(A, 0, 0), "a", (((0,), (1,)), ((1,), ()))),
        ]:
            self.assertEqual(endings(shape, word), told)

    def test_the_word_without_signs(self):
        self.assertEqual(endings(A, ""), (((),),))
        self.assertEqual(endings(many(A), ""), (((0,),), ((),)))
        self.assertEqual(endings(times(LOOSE, 3, 4), ""), (((0,),), ((0,),), ((0,),), ((),)))

    def test_some_shapes(self):
        for shape in some_shapes(120):
            for word in ["", "a", "ba", "abaab", "aaaac", "c"]:
                self.assertEqual(endings(shape, word), plain_endings(shape, word), (shape, word))

    def test_parts_that_take_the_word_without_signs(self):
        for part in (LOOSE, row(), many(A), times(A, 0, 2), row(many(A), times(B, 0, 1))):
            for shape in (many(part), times(part, 0, 2), times(part, 2, 3), times(part, 4, 4), row(part, many(part))):
                for word in words_upto("ab", 4):
                    self.assertEqual(endings(shape, word), plain_endings(shape, word), (shape, word))

    def test_signs_that_no_part_has(self):
        self.assertEqual(endings(many(A), "~\n"), (((0,), (1,), (2,)), ((), (), ())))
        self.assertEqual(endings(one("\n "), " \n~"), (((1,), (2,), (), ()),))

    def test_sixteen_signs(self):
        shapes = [
            many(many(many(many(A)))), many(times(many(LOOSE), 0, 4)),
            times(times(times(times(LOOSE, 0, 4), 0, 4), 0, 4), 0, 4),
            row(*[many(either(LOOSE, many(one("ab"))))] * 5),
            row(row(*[many(A)] * 5), row(*[many(A)] * 5), many(B)),
        ]
        for shape, word in itertools.product(shapes, ["a" * 16, "ab" * 8, "a" * 15 + "b", "c" * 16]):
            self.assertEqual(endings(shape, word), plain_endings(shape, word), (shape, word))

    def test_all_that_is_told_is_in_tuples(self):
        for shape in some_shapes(30):
            rows = endings(shape, "aba")
            self.assertIs(type(rows), tuple)
            self.assertEqual(len(rows), len(parts_of(shape)))
            for part in rows:
                self.assertIs(type(part), tuple)
                self.assertEqual([type(ends) for ends in part], [tuple] * 4)

    def test_nothing_is_changed(self):
        for shape in some_shapes(20):
            is_kept(self, endings, shape, "abba")
            is_kept(self, takes, shape, "abba")
            is_kept(self, endings_hold, shape, "ab", [[1], {"a": [2]}])


class HoldTest(unittest.TestCase):
    def test_the_true_rows_hold(self):
        for shape in some_shapes(60):
            for word in ("", "ab", "aabab"):
                self.assertIs(endings_hold(shape, word, endings(shape, word)), True)

    def test_changed_rows_do_not(self):
        for shape, word in [(A, ""), (many(A), "a"), (row(many(A), B), "ab"), (times(LOOSE, 1, 2), "aab")]:
            for rows in changed(endings(shape, word)):
                self.assertIs(endings_hold(shape, word, rows), False, repr(rows)[:200])

    def test_true_for_one_and_a_list_for_a_tuple(self):
        self.assertIs(endings_hold(A, "a", (((1,), ()),)), True)
        self.assertIs(endings_hold(A, "a", (((True,), ()),)), False)
        self.assertIs(endings_hold(A, "a", (([1], ()),)), False)
        self.assertIs(endings_hold(A, "a", ([(1,), ()],)), False)
        self.assertIs(endings_hold(A, "a", [((1,), ())]), False)
        self.assertIs(endings_hold(row(), "", (((False,),),)), False)

    def test_rows_of_another_word_or_shape(self):
        self.assertIs(endings_hold(many(A), "ab", endings(many(A), "aa")), False)
        self.assertIs(endings_hold(many(A), "ab", endings(many(B), "ab")), False)

    def test_odd_things(self):
        for thing in odd_things():
            self.assertIs(endings_hold(row(A, B), "ab", thing), False)
            self.assertIs(endings_hold(A, "", (thing,)), False)
            self.assertIs(endings_hold(A, "", ((thing,),)), repr(thing) == "()")


class TakesTest(unittest.TestCase):
    def test_each_kind(self):
        for shape, taken, others in [
            (one("ab"), ["a", "b"], ["", "c", "ab", "aa"]),
            (row(), [""], ["a"]),
            (row(A, one("bc"), A), ["aba", "aca"], ["", "a", "ab", "abaa", "aaa", "baa"]),
            (either(A, row(B, B)), ["a", "bb"], ["", "b", "abb", "bba"]),
            (many(row(A, B)), ["", "ab", "abab", "ab" * 8], ["a", "aba", "ba"]),
            (times(A, 1, 3), ["a", "aa", "aaa"], ["", "aaaa", "b"]),
            (times(A, 0, 4), ["", "a", "aaaa"], ["aaaaa"]),
            (times(A, 0, 0), [""], ["a"]),
            (times(row(A, B), 2, 2), ["abab"], ["", "ab", "ababab"]),
            (times(LOOSE, 3, 4), ["", "a", "aaaa"], ["aaaaa", "b"]),
        ]:
            for word in taken:
                self.assertIs(takes(shape, word), True, (shape, word))
            for word in others:
                self.assertIs(takes(shape, word), False, (shape, word))

    def test_some_shapes(self):
        for shape in some_shapes(150, seed=2):
            for word in words_upto("ab", 4):
                self.assertIs(takes(shape, word), word in stretches_taken(shape, word), (shape, word))
