import itertools
import unittest

from nearreach.endings import takes
from nearreach.takings import taking, taking_holds, word_of
from tests.helpers import (
    EqualToAll, changed, either, is_kept, many, odd_things, one, row, some_shapes, times, words_upto,
)

A, B = one("a"), one("b")
LOOSE = either(row(), A)


def split(word, count):
    """All ways to part a word into so many stretches."""
    if count == 0:
        return [()] if word == "" else []
    return [(word[:at],) + rest for at in range(len(word) + 1) for rest in split(word[at:], count - 1)]


def papers_in_turn(parts, word, most):
    return [papers for stretches in split(word, len(parts))
            for papers in itertools.product(*[all_papers(*pair, most) for pair in zip(parts, stretches)])]


def all_papers(shape, word, most):
    """All takings of the word, those of a many with at most so many papers."""
    if shape[0] == "one":
        return [("one", word)] if word in list(shape[1]) else []
    if shape[0] == "row":
        return [("row", papers) for papers in papers_in_turn(shape[1], word, most)]
    if shape[0] == "either":
        return [("either", number, paper) for number, part in enumerate(shape[1])
                for paper in all_papers(part, word, most)]
    low, high = (0, most) if shape[0] == "many" else shape[2:]
    return [(shape[0], papers) for count in range(low, high + 1)
            for papers in papers_in_turn([shape[1]] * count, word, most)]


class TakingTest(unittest.TestCase):
    def test_each_kind(self):
        for shape, word, paper in [
            (one("ab"), "b", ("one", "b")),
            (row(), "", ("row", ())),
            (row(A, B), "ab", ("row", (("one", "a"), ("one", "b")))),
            (either(A, B), "b", ("either", 1, ("one", "b"))),
            (many(A), "aa", ("many", (("one", "a"), ("one", "a")))),
            (times(A, 1, 3), "aa", ("times", (("one", "a"), ("one", "a")))),
            (times(A, 0, 3), "", ("times", ())),
            (times(row(), 2, 2), "", ("times", (("row", ()), ("row", ())))),
        ]:
            self.assertEqual(taking(shape, word), paper)
            self.assertEqual(word_of(paper), word)
            self.assertIs(taking_holds(shape, word, paper), True)

    def test_none_just_where_the_word_is_not_taken(self):
        for shape in some_shapes(200, seed=3):
            for word in words_upto("ab", 4) + ["c", "abc"]:
                paper = taking(shape, word)
                self.assertIs(paper is not None, takes(shape, word), (shape, word))
                if paper is not None:
                    self.assertIs(taking_holds(shape, word, paper), True, (shape, word))
                    self.assertEqual(word_of(paper), word)

    def test_told_takings_are_takings(self):
        shapes = [row(many(A), many(one("ab"))), many(LOOSE), times(LOOSE, 2, 3), either(row(A, B), many(either(A, B)))]
        for shape in shapes + some_shapes(40, deepest=3, seed=4):
            for word in words_upto("ab", 2):
                paper = taking(shape, word)
                told = [repr(each) for each in all_papers(shape, word, 3)]
                self.assertEqual(paper is None, not told)
                if paper is not None:
                    self.assertIn(repr(paper), told)

    def test_sixteen_signs(self):
        for shape in [
            many(many(many(many(A)))), times(times(times(LOOSE, 0, 4), 0, 4), 1, 4), row(*[many(LOOSE)] * 5),
            row(many(many(A)), many(many(A)), many(many(LOOSE))),
        ]:
            paper = taking(shape, "a" * 16)
            self.assertIs(taking_holds(shape, "a" * 16, paper), True)
            self.assertEqual(word_of(paper), "a" * 16)
            self.assertIs(taking(shape, "a" * 15 + "b"), None)

    def test_nothing_is_changed(self):
        for shape in some_shapes(20):
            is_kept(self, taking, shape, "ab")
            is_kept(self, taking_holds, shape, "ab", ["many", [["one", "a"]]])
        is_kept(self, word_of, ("row", (("one", "a"), ("many", ()))))


class WordOfTest(unittest.TestCase):
    def test_all_kinds_within_one_another(self):
        paper = ("row", (
            ("many", (("one", "a"), ("one", "\n"))), ("either", 3, ("times", (("one", "c"),))),
            ("row", ()), ("one", "~"),
        ))
        self.assertEqual(word_of(paper), "a\nc~")


class HoldsTest(unittest.TestCase):
    def test_all_takings_hold(self):
        for shape in [many(LOOSE), times(LOOSE, 0, 3), row(many(A), many(A)), either(A, A, many(many(A)))]:
            for word in ("", "a", "aa"):
                for paper in all_papers(shape, word, 3):
                    self.assertIs(taking_holds(shape, word, paper), True, paper)

    def test_changed_papers(self):
        for shape, word in [
            (one("ab"), "a"), (row(A, many(B)), "abb"), (either(A, row(A), one("ab")), "a"), (many(LOOSE), "aa"),
            (times(either(A, B), 1, 2), "ab"), (times(LOOSE, 2, 3), ""), (row(either(row(), many(A)), B), "ab"),
        ]:
            told = {repr(paper) for paper in all_papers(shape, word, 4)}
            for paper in changed(taking(shape, word)):
                self.assertIs(taking_holds(shape, word, paper), repr(paper) in told, (shape, repr(paper)[:200]))

    def test_true_for_one_and_lists_for_tuples(self):
        shape = either(A, many(A))
        self.assertIs(taking_holds(shape, "a", ("either", 1, ("many", (("one", "a"),)))), True)
        for paper in [
            ("either", True, ("many", (("one", "a"),))), ("either", 1, ("many", [("one", "a")])),
            ("either", 1, ["many", (("one", "a"),)]), ["either", 1, ("many", (("one", "a"),))],
            ("either", 1, ("many", (["one", "a"],))), ("either", False, ("one", "a")), ("either", 2, ("one", "a")),
            ("either", -1, ("many", (("one", "a"),))), ("either", -2, ("one", "a")), ("either", "1", ("one", "a")),
            ("either", 0, ("one", EqualToAll())), ("either", 0, (EqualToAll(), "a")),
            ("either", EqualToAll(), ("one", "a")),
        ]:
            self.assertIs(taking_holds(shape, "a", paper), False, paper)

    def test_counts_of_a_times(self):
        paper = ("one", "a")
        for count in range(6):
            holds = taking_holds(times(A, 2, 3), "a" * count, ("times", (paper,) * count))
            self.assertIs(holds, 2 <= count <= 3)
            self.assertIs(taking_holds(many(A), "a" * count, ("many", (paper,) * count)), True)
            self.assertIs(taking_holds(row(A, A), "a" * count, ("row", (paper,) * count)), count == 2)

    def test_signs_of_more_or_no_letters(self):
        self.assertIs(taking_holds(one("ab"), "ab", ("one", "ab")), False)
        self.assertIs(taking_holds(one("ab"), "", ("one", "")), False)
        self.assertIs(taking_holds(one("ab"), "c", ("one", "c")), False)

    def test_another_word_or_shape(self):
        paper = taking(row(A, B), "ab")
        for word in ("", "a", "b", "ba", "abb", "aab"):
            self.assertIs(taking_holds(row(A, B), word, paper), False)
        for shape in (A, row(A), row(B, A), row(A, B, A), either(row(A, B)), many(one("ab")), times(one("ab"), 2, 2)):
            self.assertIs(taking_holds(shape, "ab", paper), False)

    def test_odd_things(self):
        for thing in odd_things():
            for shape in (A, row(), row(A), either(row()), many(A), times(A, 0, 2)):
                self.assertIs(taking_holds(shape, "", thing), False)
                self.assertIs(taking_holds(shape, "a", (shape[0], thing)), False)
            self.assertIs(taking_holds(either(A), "a", ("either", 0, thing)), False)
            self.assertIs(taking_holds(row(A), "a", ("row", (thing,))), False)

    def test_rows_of_two_thousand(self):
        self.assertIs(taking_holds(many(many(A)), "", ("many", (("many", ()),) * 2000)), True)
        self.assertIs(taking_holds(many(many(A)), "a", ("many", (("many", ()),) * 2000)), False)
        self.assertIs(taking_holds(many(A), "a" * 16, ("many", (("one", "a"),) * 2000)), False)
