import unittest

from nearreach.books import (
    book_spread, crowd_kind, exchanged, kind_by_trying, looked_book, with_rule, without_rule,
)
from nearreach.endings import takes
from nearreach.errors import NoBook, NoPlace, TooHeavy
from nearreach.shapes import weight
from nearreach.spreads import behind, spread, stands
from tests.helpers import (
    NAMES, EqualToAll, book, changed, either, is_kept, light_shapes, many, odd_things, one, plain_is_book, row, times,
    words_upto,
)

A, B = one("a"), one("b")
FIVE = row(*[A] * 5)
SIX = ("ab", tuple((name, A) for name in NAMES))
NONE = ("ab", ())


def rule_book(*rules, tongue="ab"):
    return (tongue, rules)


SPOILT = [
    ("", ()), ("aa", ()), ("abcdefg", ()), ("%", ()), (None, ()), (["a"], ()), (("a",), ()), ("ab",), ("ab", (), ()),
    ["ab", ()], ("ab", []), ("ab", None), ("ab", {}), ("ab", "x"), (),
    rule_book(*SIX[1], ("seven", A)), rule_book(("x", A, A)), rule_book(("x",)), rule_book(["x", A]), rule_book("xy"),
    rule_book(("x", list(A))), rule_book(("", A)), rule_book(("abcdefghi", A)), rule_book(("X", A)),
    rule_book(("x1", A)), rule_book(("x y", A)), rule_book(("x_", A)), rule_book(("x\n", A)), rule_book(("\u00e9", A)),
    rule_book(("{", A)), rule_book(("`", A)), rule_book((b"x", A)), rule_book((None, A)), rule_book((True, A)),
    rule_book((("x",), A)), rule_book((["x"], A)),
    rule_book(("x", A), ("x", B)), rule_book(("x", A), ("y", A), ("x", A)),
    rule_book(("x", ("one", ""))), rule_book(("x", None)), rule_book(("x", times(A, 2, 1))), rule_book(("x", one("c"))),
    rule_book(("x", one("ac"))), rule_book(("x", one("\n"))), rule_book(("x", row(A, many(either(B, one("c")))))),
    rule_book(("x", times(one("c"), 0, 0))), rule_book(("x", A), ("y", one("b")), ("z", one("c"))),
    rule_book(("x", many(many(many(many(many(A))))))),
]


class LookedTest(unittest.TestCase):
    def test_books(self):
        for thing in [
            NONE, SIX, ("\n", ()), ("abcdef", ()), book(A), book(one("ba")), book(row()), book(many(either(A, B))),
            rule_book(("a", A)), rule_book(("z", A), ("abcdefgh", B)), book(times(A, 0, 0)),
            book(one("\n~"), tongue="~x\n"),
        ]:
            self.assertIs(looked_book(thing), thing)

    def test_no_books(self):
        for thing in SPOILT + odd_things():
            with self.assertRaises(NoBook, msg=repr(thing)[:200]):
                looked_book(thing)

    def test_odd_things_at_each_place(self):
        for thing in odd_things():
            for spoilt in [
                (thing, ()), ("ab", (thing,)), ("ab", ((thing, A),)), ("ab", (("x", thing),)),
                ("ab", (("x", A), thing)), ("ab", (("x", ("one", thing)),)), ("ab", (), thing),
            ]:
                with self.assertRaises(NoBook, msg=repr(thing)[:200]):
                    looked_book(spoilt)
            if repr(thing) != "()":
                with self.assertRaises(NoBook):
                    looked_book(("ab", thing))

    def test_every_change_at_one_place(self):
        good = 0
        for thing in changed(rule_book(("x", row(A, B)), ("y", times(A, 1, 2)))):
            if plain_is_book(thing):
                self.assertIs(looked_book(thing), thing)
                good += 1
            else:
                with self.assertRaises(NoBook, msg=repr(thing)[:200]):
                    looked_book(thing)
        self.assertGreater(good, 3)

    def test_ten_and_eleven(self):
        last = book(many(FIVE), B, times(A, 0, 4))
        for thing in [book(FIVE, FIVE), book(row(FIVE, FIVE)), book(times(FIVE, 0, 2)), last]:
            self.assertIs(looked_book(thing), thing)
            with self.assertRaises(TooHeavy):
                looked_book((thing[0], thing[1] + (("more", A),)))
            with self.assertRaises(TooHeavy):
                looked_book((thing[0], (("more", many(B)),) + thing[1]))
            self.assertEqual(len(looked_book((thing[0], thing[1] + (("more", row()),)))[1]), len(thing[1]) + 1)

    def test_no_book_goes_ahead_of_too_heavy(self):
        heavy = ("x", times(times(A, 4, 4), 4, 4))
        with self.assertRaises(TooHeavy):
            looked_book(rule_book(heavy))
        for thing in [rule_book(heavy, heavy), rule_book(heavy, None), ("b", (heavy,)), ("", (heavy,)),
                      ("ab", [heavy]), ["ab", (heavy,)], rule_book(heavy, ("y", one("c")))]:
            with self.assertRaises(NoBook):
                looked_book(thing)

    def test_nothing_is_changed(self):
        is_kept(self, looked_book, SIX)
        is_kept(self, kind_by_trying, SIX, "ab")
        is_kept(self, book_spread, SIX)
        is_kept(self, crowd_kind, book_spread(SIX), (1, 2))
        is_kept(self, with_rule, NONE, 0, ("x", A))
        is_kept(self, without_rule, SIX, 0)
        is_kept(self, exchanged, SIX, 0)
        rule = ["x", [A]]
        with self.assertRaises(NoBook):
            with_rule(NONE, 0, rule)
        self.assertEqual(rule, ["x", [A]])


class KindTest(unittest.TestCase):
    def test_the_first_rule_that_takes(self):
        thing = book(row(A, B), many(A), one("ab"))
        for word, kind in [("ab", 0), ("a", 1), ("aa", 1), ("b", 2), ("ba", -1), ("aab", -1)]:
            self.assertEqual(kind_by_trying(thing, word), kind)

    def test_the_word_without_signs(self):
        for thing in (NONE, book(A), book(row()), book(A, many(A)), book(times(A, 0, 2))):
            self.assertEqual(kind_by_trying(thing, ""), -1)

    def test_a_book_without_rules(self):
        self.assertEqual(kind_by_trying(NONE, "a"), -1)

    def test_the_last_of_six(self):
        self.assertEqual(kind_by_trying(book(A, A, A, A, A, B), "b"), 5)

    def test_sixteen_signs(self):
        self.assertEqual(kind_by_trying(book(many(many(A)), many(many(one("ab")))), "a" * 15 + "b"), 1)


def some_books(count, seed):
    shapes = light_shapes(3 * count, 3, seed=seed)
    return [book(*shapes[at:at + at // 3 % 4]) for at in range(0, 3 * count, 3)]


class SpreadTest(unittest.TestCase):
    def test_a_book(self):
        thing = book(row(A, B), many(A), times(one("ba"), 0, 2))
        self.assertEqual(book_spread(thing), (
            ("", "a", "b", "a", "ba", "ba"), (-1, 0, 0, 1, 2, 2),
            ((1, 3, 4), (2,), (), (3,), (5,), ()), (0, 2, 3, 4, 5)))

    def test_a_book_without_rules(self):
        self.assertEqual(book_spread(NONE), (("",), (-1,), ((),), ()))

    def test_0_among_the_lasts(self):
        self.assertEqual(book_spread(book(A, B))[3], (1, 2))
        self.assertEqual(book_spread(book(A, row()))[3], (0, 1))
        self.assertEqual(book_spread(book(many(A), B))[3], (0, 1, 2))

    def test_it_is_made_of_the_shapes_spreads(self):
        for thing in some_books(60, 100):
            signs, owners, nexts, lasts = [""], [-1], [()], []
            for number, (name, shape) in enumerate(thing[1]):
                shift = len(signs) - 1
                more, mores, ends = spread(shape)
                signs += more[1:]
                owners += [number] * (len(more) - 1)
                nexts[0] += tuple(place + shift for place in mores[0])
                nexts += [tuple(place + shift for place in each) for each in mores[1:]]
                lasts += [place + shift if place else 0 for place in ends]
            told = (tuple(signs), tuple(owners), tuple(nexts), tuple(sorted(set(lasts))))
            self.assertEqual(book_spread(thing), told)

    def test_crowds_have_the_kinds_of_their_words(self):
        kinds = set()
        for thing in some_books(60, 200):
            told = book_spread(thing)
            signs, owners, nexts, lasts = told
            for word in words_upto("ab", 4):
                crowd = stands((signs, nexts, lasts), word)[-1]
                self.assertEqual(crowd_kind(told, crowd), kind_by_trying(thing, word), (thing, word))
                kinds.add(crowd_kind(told, crowd))
                tried = [number for number, (name, shape) in enumerate(thing[1]) if word and takes(shape, word)]
                self.assertEqual(kind_by_trying(thing, word), min(tried, default=-1))
        self.assertEqual(kinds, {-1, 0, 1, 2})

    def test_crowds_of_a_book(self):
        signs, owners, nexts, lasts = book_spread(book(row(A, B), many(A), one("ab")))
        self.assertEqual(behind((signs, nexts, lasts), (0,), "a"), (1, 3, 4))
        self.assertEqual(behind((signs, nexts, lasts), (1, 3, 4), "b"), (2,))
        self.assertEqual(stands((signs, nexts, lasts), "aab"), ((0,), (1, 3, 4), (3,), ()))

    def test_crowd_kinds(self):
        told = book_spread(book(row(A, B), many(A), one("ab")))
        self.assertEqual(told[1], (-1, 0, 0, 1, 2))
        for crowd, kind in [((), -1), ((0,), -1), ((1,), -1), ((2,), 0), ((3,), 1), ((4,), 2), ((3, 4), 1),
                            ((1, 4), 2), ((1, 3, 4), 1), ((2, 3, 4), 0)]:
            self.assertEqual(crowd_kind(told, crowd), kind)

    def test_the_first_crowd_has_no_kind_also_where_0_is_a_last(self):
        told = book_spread(book(many(A)))
        self.assertIn(0, told[3])
        self.assertEqual(crowd_kind(told, (0,)), -1)

    def test_a_book_of_ten(self):
        told = book_spread(book(FIVE, FIVE))
        self.assertEqual(weight(FIVE), 5)
        self.assertEqual((len(told[0]), told[1]), (11, (-1,) + (0,) * 5 + (1,) * 5))


class ChangedTest(unittest.TestCase):
    X, Y, Z = ("x", A), ("y", B), ("z", many(A))
    TWO = ("ab", (X, Y))

    def test_with_rule(self):
        x, y, z = self.X, self.Y, self.Z
        self.assertEqual(with_rule(self.TWO, 0, z), ("ab", (z, x, y)))
        self.assertEqual(with_rule(self.TWO, 1, z), ("ab", (x, z, y)))
        self.assertEqual(with_rule(self.TWO, 2, z), ("ab", (x, y, z)))
        self.assertEqual(with_rule(NONE, 0, z), ("ab", (z,)))

    def test_without_rule(self):
        x, y, z = self.X, self.Y, self.Z
        three = ("ab", (x, y, z))
        self.assertEqual(without_rule(three, 0), ("ab", (y, z)))
        self.assertEqual(without_rule(three, 1), ("ab", (x, z)))
        self.assertEqual(without_rule(three, 2), ("ab", (x, y)))
        self.assertEqual(without_rule(("ab", (x,)), 0), NONE)

    def test_exchanged(self):
        x, y, z = self.X, self.Y, self.Z
        three = ("ab", (x, y, z))
        self.assertEqual(exchanged(three, 0), ("ab", (y, x, z)))
        self.assertEqual(exchanged(three, 1), ("ab", (x, z, y)))

    def test_no_such_place(self):
        odd = [thing for thing in odd_things() if repr(thing) not in ("0", "1", "2", "6")]
        odd += [-1, True, False, None, "0", (0,), [0], EqualToAll(), 10 ** 999]
        for at in odd + [3]:
            with self.assertRaises(NoPlace):
                with_rule(self.TWO, at, self.Z)
        for at in odd + [2, 3]:
            with self.assertRaises(NoPlace):
                without_rule(self.TWO, at)
        for at in odd + [1, 2, 3]:
            with self.assertRaises(NoPlace):
                exchanged(self.TWO, at)
        for at in (0, 1, -1):
            with self.assertRaises(NoPlace):
                without_rule(NONE, at)
            with self.assertRaises(NoPlace):
                exchanged(NONE, at)
            with self.assertRaises(NoPlace):
                exchanged(("ab", (self.X,)), at)
        with self.assertRaises(NoPlace):
            with_rule(NONE, 1, self.X)

    def test_six_rules(self):
        with self.assertRaises(NoBook):
            with_rule(SIX, 0, self.X)
        with self.assertRaises(NoBook):
            with_rule(SIX, 6, self.X)
        with self.assertRaises(NoPlace):
            with_rule(SIX, 7, self.X)
        self.assertEqual(without_rule(SIX, 5)[1], SIX[1][:5])
        self.assertEqual(exchanged(SIX, 4)[1], SIX[1][:4] + (SIX[1][5], SIX[1][4]))
        with self.assertRaises(NoPlace):
            without_rule(SIX, 6)
        with self.assertRaises(NoPlace):
            exchanged(SIX, 5)

    def test_a_rule_that_may_be_whatever_it_is(self):
        spoilt = odd_things() + [self.X, ("y", A), ("u", one("c")), ("u", A, A), ["u", A], ("U", A), ("u", None)]
        for rule in spoilt:
            with self.assertRaises(NoBook, msg=repr(rule)[:200]):
                with_rule(self.TWO, 1, rule)
            with self.assertRaises(NoPlace):
                with_rule(self.TWO, 3, rule)

    def test_too_heavy(self):
        ten = book(FIVE, FIVE)
        heavy = ("x", times(times(A, 4, 4), 4, 4))
        with self.assertRaises(TooHeavy):
            with_rule(ten, 1, self.X)
        with self.assertRaises(TooHeavy):
            with_rule(NONE, 0, heavy)
        self.assertEqual(with_rule(ten, 1, ("x", row()))[1][1], ("x", row()))
        with self.assertRaises(NoPlace):
            with_rule(ten, 3, self.X)
        with self.assertRaises(NoPlace):
            with_rule(NONE, 1, heavy)
        with self.assertRaises(NoBook):
            with_rule(("b", ()), 0, heavy)
        with self.assertRaises(NoBook):
            with_rule(SIX, 0, heavy)

    def test_what_comes_is_looked_at(self):
        heavy = ("x", times(times(A, 4, 4), 4, 4))
        two = ("ab", (heavy, self.Y))
        self.assertEqual(without_rule(two, 0), ("ab", (self.Y,)))
        with self.assertRaises(TooHeavy):
            without_rule(two, 1)
        with self.assertRaises(TooHeavy):
            exchanged(two, 0)

    def test_what_is_no_book(self):
        for thing in SPOILT + odd_things():
            with self.assertRaises(NoBook, msg=repr(thing)[:200]):
                with_rule(thing, 0, self.Z)
            for at in (-1, None, True, "0"):
                for change in (lambda: with_rule(thing, at, self.Z), lambda: without_rule(thing, at),
                               lambda: exchanged(thing, at)):
                    with self.assertRaises(NoPlace):
                        change()
        for thing in odd_things():
            with self.assertRaises(NoBook):
                without_rule(thing, 0)
            with self.assertRaises(NoBook):
                exchanged(thing, 0)
