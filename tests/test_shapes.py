import unittest

from nearreach.shapes import is_shape, parts_of, weight
from tests.helpers import (
    EqualToAll, changed, either, is_kept, many, odd_things, one, plain_depth, plain_weight, row, some_shapes, times,
)

A = one("a")
FIVE_DEEP = many(many(many(many(A))))
TWENTY_FOUR = row(row(*[A] * 6), row(*[A] * 6), row(*[A] * 6), row(A))
GOOD = [
    A, one("abcdef"), one("\n"), one("~ "), row(), row(A), row(*[A] * 6), either(A), either(*[A] * 6), many(A),
    many(row()), times(A, 0, 0), times(A, 0, 4), times(A, 4, 4), times(A, 2, 3), row(row(), either(many(A))),
    FIVE_DEEP, many(many(many(many(row())))), TWENTY_FOUR,
]
BAD = [
    ("one",), ("one", ""), ("one", "aa"), ("one", "abcdefg"), ("one", "%"), ("one", "\t"), ("one", ("a",)),
    ("one", ["a"]), ("one", None), ("one", b"a"), ("one", "a", "b"), ["one", "a"], ("One", "a"), ("two", "a"), ("", A),
    ("row",), ("row", [A]), ("row", A), ("row", (A,), (A,)), ("row", (A, None)), ("row", ("a",)), row(*[A] * 7),
    ("row", None), ["row", ()],
    ("either", ()), ("either",), ("either", [A]), ("either", A), either(*[A] * 7), ("either", (A, ())),
    ("many",), ("many", ()), ("many", (A,)), ("many", "a"), ("many", A, A), ["many", A], ("many", list(A)),
    ("times", A), ("times", A, 1), ("times", A, 1, 2, 3), times(A, 2, 1), times(A, 0, 5), times(A, 5, 5),
    times(A, -1, 2), times(A, -2, -1), times(A, True, 2), times(A, 0, True), times(A, False, 2), times(A, 0, False),
    times(A, "0", 2), times(A, 0, None), times(A, 0, 10 ** 999), times(None, 1, 2), times((A,), 1, 2),
    ["times", A, 1, 2], (EqualToAll(), "a"), (b"one", "a"), (("one",), "a"), ((), ()),
]


def wrapped(shape):
    """The shape within shapes of each kind, three deep."""
    yield row(A, either(A, many(shape)))
    yield many(times(row(shape, A), 1, 2))
    yield either(row(A, A), times(either(A, shape), 0, 4))


class IsShapeTest(unittest.TestCase):
    def test_shapes(self):
        for shape in GOOD:
            self.assertIs(is_shape(shape), True, repr(shape))

    def test_no_shapes(self):
        for thing in BAD + odd_things():
            self.assertIs(is_shape(thing), False, repr(thing)[:200])

    def test_no_shapes_deep_inside(self):
        for shape in wrapped(A):
            self.assertIs(is_shape(shape), True)
        for thing in BAD + odd_things():
            for shape in wrapped(thing):
                self.assertIs(is_shape(shape), False, repr(shape)[:200])

    def test_five_deep_and_six_deep(self):
        for kind in (many, row, either, lambda part: times(part, 1, 1)):
            self.assertIs(is_shape(kind(many(many(many(A))))), True)
            self.assertIs(is_shape(kind(FIVE_DEEP)), False)
            self.assertIs(is_shape(many(many(many(kind(A))))), True)
            self.assertIs(is_shape(many(many(many(many(kind(A)))))), False)

    def test_a_row_without_parts_is_one_deep(self):
        self.assertIs(is_shape(many(many(many(many(row()))))), True)
        self.assertIs(is_shape(many(many(many(many(many(row())))))), False)

    def test_the_deepest_part_counts(self):
        self.assertIs(is_shape(row(A, A, many(many(many(A))))), True)
        self.assertIs(is_shape(row(A, many(many(many(many(A)))), A)), False)

    def test_twenty_four_parts_and_twenty_five(self):
        self.assertEqual(len(parts_of(TWENTY_FOUR)), 24)
        self.assertIs(is_shape(TWENTY_FOUR), True)
        self.assertIs(is_shape(many(TWENTY_FOUR)), False)
        full = [row(*[A] * 6)] * 3
        for rest in ([many(A)], [A, A], [row(), row()], [A, row()], [times(A, 0, 0)]):
            self.assertIs(is_shape(row(*full, *rest)), True, rest)
        for rest in ([many(many(A))], [A, A, A], [row(A, A)], [row(), row(), A], [times(either(A), 0, 0)]):
            self.assertIs(is_shape(row(*full, *rest)), False, rest)

    def test_a_times_counts_its_part_once(self):
        self.assertIs(is_shape(times(times(row(A, A, A), 4, 4), 4, 4)), True)

    def test_things_that_hold_one_another_many_times(self):
        thing = A
        for _ in range(29):
            thing = row(*[thing] * 6)
        self.assertIs(is_shape(thing), False)
        wide = A
        for _ in range(29):
            wide = ("row", (wide,) * 2000)
        self.assertIs(is_shape(wide), False)

    def test_every_change_at_one_place(self):
        for shape in (A, row(), row(times(A, 0, 2), either(A)), many(either(one("ab"), row())), times(A, 1, 1)):
            for thing in changed(shape):
                self.assertIs(is_shape(thing), plain_depth(thing) > 0, repr(thing)[:200])


class WeightTest(unittest.TestCase):
    def test_weights(self):
        for shape, number in [
            (A, 1), (one("abcdef"), 1), (row(), 0), (row(A, A), 2), (either(A, A, A), 3), (many(A), 1),
            (many(row()), 0),
            (times(A, 0, 4), 4), (times(A, 3, 3), 3), (times(A, 0, 0), 0), (times(times(A, 1, 3), 2, 4), 12),
            (times(times(row(A, A), 0, 0), 4, 4), 0), (times(times(A, 0, 4), 0, 0), 0),
            (row(A, times(either(A, many(A)), 1, 2)), 5), (times(times(times(times(A, 4, 4), 4, 4), 4, 4), 4, 4), 256),
        ]:
            self.assertIs(is_shape(shape), True)
            self.assertEqual(weight(shape), number)

    def test_some_weights(self):
        for shape in some_shapes(200, deepest=5):
            self.assertEqual(weight(shape), plain_weight(shape))


class PartsTest(unittest.TestCase):
    def test_the_order(self):
        b, c, d = one("b"), one("c"), one("d")
        inner = either(b, many(c))
        shape = row(times(A, 1, 2), inner, row(), d)
        self.assertEqual(
            parts_of(shape), (shape, times(A, 1, 2), A, inner, b, many(c), c, row(), d))

    def test_parts_that_stand_twice_are_told_twice(self):
        self.assertEqual(parts_of(either(A, A)), (either(A, A), A, A))
        self.assertEqual(parts_of(times(A, 4, 4)), (times(A, 4, 4), A))

    def test_the_least_ones(self):
        self.assertEqual(parts_of(A), (A,))
        self.assertEqual(parts_of(row()), (row(),))
        self.assertEqual(parts_of(FIVE_DEEP), (FIVE_DEEP, many(many(many(A))), many(many(A)), many(A), A))

    def test_nothing_is_changed(self):
        for shape in some_shapes(20):
            is_kept(self, is_shape, shape)
            is_kept(self, weight, shape)
            is_kept(self, parts_of, shape)
        is_kept(self, is_shape, ["row", [["one", "a"]]])
        is_kept(self, is_shape, ("row", ([], {"a": []})))
