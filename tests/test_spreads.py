import unittest

from nearreach.endings import takes
from nearreach.errors import TooHeavy
from nearreach.shapes import weight
from nearreach.spreads import behind, spread, spread_takes, stands
from tests.helpers import (
    courses, either, is_kept, light_shapes, many, one, plain_spread, row, some_shapes, times, words_upto,
)

A, B, C = one("a"), one("b"), one("c")
LOOSE = either(row(), A)


class SpreadTest(unittest.TestCase):
    def test_each_kind(self):
        for shape, told in [
            (one("ba"), (("", "ba"), ((1,), ()), (1,))),
            (row(), (("",), ((),), (0,))),
            (row(A, B), (("", "a", "b"), ((1,), (2,), ()), (2,))),
            (either(A, B), (("", "a", "b"), ((1, 2), (), ()), (1, 2))),
            (many(A), (("", "a"), ((1,), (1,)), (0, 1))),
            (times(A, 0, 0), (("",), ((),), (0,))),
            (times(A, 0, 2), (("", "a", "a"), ((1,), (2,), ()), (0, 1, 2))),
            (times(A, 2, 3), (("", "a", "a", "a"), ((1,), (2,), (3,), ()), (2, 3))),
            (times(A, 1, 1), (("", "a"), ((1,), ()), (1,))),
        ]:
            self.assertEqual(spread(shape), told)

    def test_a_copy_is_left_out_only_with_all_behind_it(self):
        # The third copy can't stand straight behind the first one, nor begin a course.
        self.assertEqual(spread(times(A, 1, 3)), (("", "a", "a", "a"), ((1,), (2,), (3,), ()), (1, 2, 3)))
        self.assertEqual(spread(times(A, 0, 3)), (("", "a", "a", "a"), ((1,), (2,), (3,), ()), (0, 1, 2, 3)))

    def test_copies_that_have_a_course_without_places(self):
        self.assertEqual(
            spread(times(LOOSE, 2, 3)), (("", "a", "a", "a"), ((1, 2, 3), (2, 3), (3,), ()), (0, 1, 2, 3)))
        self.assertEqual(
            spread(times(many(A), 3, 3)), (("", "a", "a", "a"), ((1, 2, 3), (1, 2, 3), (2, 3), (3,)), (0, 1, 2, 3)))

    def test_a_many_within_a_times(self):
        self.assertEqual(
            spread(times(row(A, many(B)), 1, 2)),
            (("", "a", "b", "a", "b"), ((1,), (2, 3), (2, 3), (4,), (4,)), (1, 2, 3, 4)))

    def test_places_go_on_behind_a_times(self):
        self.assertEqual(
            spread(row(times(A, 0, 2), times(B, 0, 0), C)),
            (("", "a", "a", "c"), ((1, 3), (2, 3), (3,), ()), (3,)))

    def test_shapes_within_one_another(self):
        shapes = light_shapes(400, 6, seed=10)
        for shape in shapes:
            self.assertEqual(spread(shape), plain_spread(shape), shape)
        self.assertGreater(len({shape[0] for shape in shapes}), 4)

    def test_0_is_a_last_just_where_there_is_a_course_without_places(self):
        for shape in light_shapes(200, 10, seed=20):
            self.assertIs(0 in spread(shape)[2], () in courses(shape, 1, 0), shape)
            self.assertIs(0 in spread(shape)[2], takes(shape, ""))

    def test_ten_is_let_by_and_eleven_is_not(self):
        ten = [
            row(row(*[A] * 5), row(*[B] * 5)), times(row(A, times(A, 0, 4)), 1, 2), many(row(*[either(A, B)] * 5)),
            row(times(A, 0, 4), times(A, 0, 4), A, A),
        ]
        for shape in ten:
            self.assertEqual(weight(shape), 10)
            self.assertEqual(len(spread(shape)[0]), 11)
            for heavy in (row(shape, A), either(A, shape), times(row(shape), 2, 2)):
                with self.assertRaises(TooHeavy):
                    spread(heavy)
        with self.assertRaises(TooHeavy):
            spread(times(times(times(times(A, 0, 4), 0, 4), 0, 4), 0, 4))

    def test_a_heavy_part_that_stands_there_no_time_is_light(self):
        self.assertEqual(spread(times(times(times(A, 4, 4), 4, 4), 0, 0)), (("",), ((),), (0,)))

    def test_nothing_is_changed(self):
        for shape in light_shapes(20, 10, seed=30):
            is_kept(self, spread, shape)
            told = spread(shape)
            is_kept(self, behind, told, (0,), "a")
            is_kept(self, stands, told, "abba")
            is_kept(self, spread_takes, told, "ab")


class CrowdTest(unittest.TestCase):
    SHAPE = row(many(either(A, one("ab"))), B)

    def test_behind(self):
        told = spread(self.SHAPE)
        self.assertEqual(told, (("", "a", "ab", "b"), ((1, 2, 3),) * 3 + ((),), (3,)))
        self.assertEqual(behind(told, (0,), "a"), (1, 2))
        self.assertEqual(behind(told, (0,), "b"), (2, 3))
        self.assertEqual(behind(told, (1, 2), "b"), (2, 3))
        self.assertEqual(behind(told, (3,), "b"), ())

    def test_behind_the_crowd_without_places(self):
        self.assertEqual(behind(spread(self.SHAPE), (), "a"), ())

    def test_a_sign_that_no_place_has(self):
        self.assertEqual(behind(spread(self.SHAPE), (0,), "c"), ())
        self.assertEqual(behind(spread(self.SHAPE), (1, 2), "\n"), ())

    def test_stands(self):
        told = spread(self.SHAPE)
        self.assertEqual(stands(told, ""), ((0,),))
        self.assertEqual(stands(told, "abc"), ((0,), (1, 2), (2, 3), ()))
        self.assertEqual(stands(told, "ca"), ((0,), (), ()))

    def test_stands_of_long_words(self):
        told = spread(many(A))
        self.assertEqual(stands(told, "a" * 240), ((0,),) + ((1,),) * 240)

    def test_some_stands(self):
        for shape in light_shapes(60, 5, seed=40):
            told = spread(shape)
            for word in words_upto("ab", 4):
                crowds = [{0}]
                for sign in word:
                    crowds.append({to for at in crowds[-1] for to in told[1][at] if sign in told[0][to]})
                self.assertEqual(stands(told, word), tuple(tuple(sorted(crowd)) for crowd in crowds))
                for crowd, sign, after in zip(stands(told, word), word, stands(told, word)[1:]):
                    self.assertEqual(behind(told, crowd, sign), after)


class TakesTest(unittest.TestCase):
    def test_just_as_the_shape(self):
        taken = 0
        for shape in light_shapes(300, 10, seed=50):
            for word in words_upto("ab", 4) + ["c", "ac", "ababab", "aaaaaaaa"]:
                self.assertIs(spread_takes(spread(shape), word), takes(shape, word), (shape, word))
                taken += takes(shape, word)
        self.assertGreater(taken, 300)

    def test_long_words(self):
        told = spread(many(row(A, B)))
        self.assertIs(spread_takes(told, "ab" * 120), True)
        self.assertIs(spread_takes(told, "ab" * 119 + "aa"), False)

    def test_the_word_without_signs(self):
        self.assertIs(spread_takes(spread(A), ""), False)
        self.assertIs(spread_takes(spread(many(A)), ""), True)


class SomeShapesTest(unittest.TestCase):
    def test_heavy_ones_among_some(self):
        for shape in some_shapes(300, deepest=5, seed=7):
            if weight(shape) > 10:
                with self.assertRaises(TooHeavy):
                    spread(shape)
            else:
                self.assertEqual(len(spread(shape)[0]), weight(shape) + 1)
