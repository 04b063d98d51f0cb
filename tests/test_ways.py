import unittest

from nearreach.spreads import spread, spread_takes
from nearreach.ways import way, way_holds
from tests.helpers import (
    EqualToAll, changed, courses, either, is_kept, light_shapes, many, odd_things, one, row, times, words_upto,
)

A, B = one("a"), one("b")


def all_ways(shape, told, word):
    """The ways of a word: its courses, one by one."""
    return sorted(
        course for course in courses(shape, len(word), len(word))
        if len(course) == len(word) and all(sign in told[0][place] for sign, place in zip(word, course)))


class WayTest(unittest.TestCase):
    def test_the_least_one(self):
        for shape, word, told in [
            (either(A, A, B), "a", (1,)),
            (either(B, one("ab"), A), "a", (2,)),
            (row(many(A), many(one("ab")), B), "aab", (1, 1, 3)),
            (either(row(A, B), row(A, A)), "aa", (3, 4)),
            (row(), "", ()),
            (times(A, 1, 3), "aa", (1, 2)),
            (many(A), "a" * 16, (1,) * 16),
        ]:
            self.assertEqual(way(spread(shape), word), told)

    def test_a_lesser_beginning_that_leads_nowhere(self):
        # Going to place 1 first would be lesser, but only place 3 leads on to the end.
        self.assertEqual(way(spread(either(row(A, B), row(A, A))), "aa"), (3, 4))

    def test_some_ways(self):
        ways = 0
        for shape in light_shapes(300, 6, seed=60):
            told = spread(shape)
            for word in words_upto("ab", 4) + ["c", "ac"]:
                fitting = all_ways(shape, told, word)
                self.assertEqual(way(told, word), fitting[0] if fitting else None, (shape, word))
                self.assertIs(way(told, word) is not None, spread_takes(told, word))
                ways += len(fitting) > 1
        self.assertGreater(ways, 100)

    def test_none_where_the_word_is_not_taken(self):
        self.assertIs(way(spread(A), ""), None)
        self.assertIs(way(spread(A), "b"), None)
        self.assertIs(way(spread(row(A, B)), "a"), None)
        self.assertIs(way(spread(row()), "a"), None)

    def test_sixteen_signs(self):
        told = spread(row(many(many(either(A, A))), many(many(either(A, A))), B))
        self.assertEqual(way(told, "a" * 15 + "b"), (1,) * 15 + (5,))
        self.assertIs(way(told, "a" * 16), None)

    def test_nothing_is_changed(self):
        for shape in light_shapes(20, 8, seed=70):
            is_kept(self, way, spread(shape), "ab")
            is_kept(self, way_holds, spread(shape), "ab", [1, [2]])


class HoldsTest(unittest.TestCase):
    def test_told_ways_hold(self):
        for shape in light_shapes(200, 10, seed=80):
            told = spread(shape)
            for word in words_upto("ab", 4):
                places = way(told, word)
                self.assertIs(way_holds(told, word, places), places is not None)

    def test_changed_ways(self):
        for shape in light_shapes(80, 5, seed=90) + [many(either(A, B, one("ab"))), times(either(A, A), 1, 3)]:
            told = spread(shape)
            for word in words_upto("ab", 3):
                fitting = [repr(each) for each in all_ways(shape, told, word)]
                for places in changed(way(told, word) or (1,)):
                    self.assertIs(way_holds(told, word, places), repr(places) in fitting, (shape, word, places))

    def test_all_rows_of_places(self):
        shape = row(many(either(A, one("ab"))), B)
        told = spread(shape)
        rows = [()]
        for _ in range(3):
            rows += [each + (place,) for each in rows for place in range(-1, 5)]
        for word in words_upto("ab", 3):
            fitting = all_ways(shape, told, word)
            for places in set(rows):
                self.assertIs(way_holds(told, word, places), places in fitting)

    def test_other_things_in_the_place_of_a_number(self):
        told = spread(many(A))
        self.assertIs(way_holds(told, "aa", (1, 1)), True)
        for thing in odd_things() + [EqualToAll(), "1", (1,), [1]]:
            if repr(thing) != "1":
                self.assertIs(way_holds(told, "aa", (1, thing)), False)
                self.assertIs(way_holds(told, "aa", (thing, 1)), False)

    def test_things_that_are_no_tuple(self):
        told = spread(many(A))
        for thing in odd_things() + [[1, 1], {1: 1}, "11", range(1, 3)]:
            self.assertIs(way_holds(told, "aa", thing), False)
        self.assertIs(way_holds(told, "", ()), True)
        for thing in ([], None, "", {}, (0,), (1,), False):
            self.assertIs(way_holds(told, "", thing), False)

    def test_the_beginning_and_the_end(self):
        told = spread(row(A, A, A))
        self.assertIs(way_holds(told, "aaa", (1, 2, 3)), True)
        self.assertIs(way_holds(told, "aa", (1, 2)), False)
        self.assertIs(way_holds(told, "aa", (2, 3)), False)
        self.assertIs(way_holds(told, "aaa", (1, 3, 2)), False)
        self.assertIs(way_holds(told, "aab", (1, 2, 3)), False)
