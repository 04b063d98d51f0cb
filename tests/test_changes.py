import random
import unittest

from nearreach.books import exchanged, kind_by_trying, with_rule, without_rule
from nearreach.changes import altered, exchange_free, first_words, idle, named_cut, shared
from nearreach.cuts import cut
from nearreach.endings import takes
from nearreach.errors import NoBook, NoText, TooHeavy, TooMany, Unlike
from nearreach.making import table_of
from tests.helpers import (
    NAMES, THIRTY_THREE, THIRTY_TWO, EqualToAll, book, either, is_kept, is_own, many, odd_things, one, plain_cut, row,
    small_books, some_shape, some_text, times, tried_cut, tried_kind, words_upto,
)

A, B, AB = one("a"), one("b"), one("ab")
# Whether the eighth sign from the end is an a takes 256 rooms to know.
HEAVY = row(many(AB), A, times(AB, 4, 4), times(AB, 3, 3))


def rules(*named, tongue="ab"):
    """A book of rules with names of their own."""
    return (tongue, named)


def changed_books(count, seed):
    """Books by twos of one tongue: renamed, exchanged, with a rule put in, taken out, or wholly other rules."""
    source = random.Random(seed)
    for each in small_books(count, seed):
        tongue, old = each
        yield each, each
        names = source.sample(NAMES, len(old))
        yield each, (tongue, tuple((name, shape) for name, (_, shape) in zip(names, old)))
        at = source.randrange(len(old) + 1)
        shape = some_shape(source, tongue, 3)
        if len(old) < 6 and len(repr(shape)) < 100 and repr(shape).count("times") < 2:
            yield each, (tongue, old[:at] + (("new", shape),) + old[at:])
        if old:
            yield each, (tongue, old[:at] + old[at + 1:])
            yield each, (tongue, old[:-1] + ((old[-1][0], some_shape(source, tongue, 2)),))
        if len(old) > 1:
            yield each, (tongue, tuple(source.sample(old, len(old))))
            yield each, (tongue, tuple((name, shape) for (name, _), (_, shape) in zip(old, old[1:] + old[:1])))


class NamedTest(unittest.TestCase):
    def test_by_hand(self):
        each = rules(("word", row(A, many(B))), ("mark", B))
        self.assertEqual(named_cut(each, ""), ([], 0))
        self.assertEqual(named_cut(each, "babba"), ([("mark", 0, 1), ("word", 1, 4), ("word", 4, 5)], 5))
        self.assertEqual(named_cut(rules(("x", A)), "aab"), ([("x", 0, 1), ("x", 1, 2)], 2))
        self.assertEqual(named_cut(rules(), "ab"), ([], 0))
        told = named_cut(each, "b")
        self.assertEqual((type(told), type(told[0]), type(told[0][0])), (tuple, list, tuple))

    def test_some_books(self):
        source = random.Random(221)
        pieces = 0
        for each in small_books(120, seed=221):
            for text in words_upto(each[0], 3) + [some_text(source, each[0], 9) for _ in range(3)]:
                told = named_cut(each, text)
                self.assertEqual(told, tried_cut(each, text), (each, text))
                pieces += len(told[0])
                plain, place = plain_cut(table_of(each), text)
                self.assertEqual(told, ([(each[1][kind][0], start, end) for kind, start, end in plain], place))
        self.assertGreater(pieces, 1000)

    def test_long_texts(self):
        each = rules(("many", row(A, many(A))), ("bee", B))
        self.assertEqual(named_cut(each, "a" * 240), ([("many", 0, 240)], 240))
        self.assertEqual(named_cut(each, "b" * 240), ([("bee", at, at + 1) for at in range(240)], 240))

    def test_refusals_and_their_order(self):
        heavy = row(many(AB), A, times(AB, 4, 4), times(AB, 4, 4))
        texts = [thing for thing in odd_things() if repr(thing) != "''"] + ["abx", "A", ("a",), ["a"], EqualToAll()]
        for text in texts:
            with self.assertRaises(NoText):
                named_cut(book(A), text)
        for text in ["a", "x", None]:
            with self.assertRaises(TooMany):
                named_cut(book(heavy), text)
            with self.assertRaises(TooMany):
                named_cut(THIRTY_THREE, text)
            with self.assertRaises(TooHeavy):
                named_cut(book(heavy, A), text)
            with self.assertRaises(NoBook):
                named_cut(book(heavy, A, one("c")), text)
        self.assertEqual(named_cut(THIRTY_TWO, "a"), ([], 0))
        for thing in odd_things() + [("", ()), ("ab", []), ["ab", ()], (EqualToAll(), ()), rules(("x", A), ("x", B))]:
            for text in ["", "a", None]:
                with self.assertRaises(NoBook, msg=repr(thing)[:100]):
                    named_cut(thing, text)


class AlteredTest(unittest.TestCase):
    def test_by_hand(self):
        x, y = ("x", A), ("y", B)
        for one_book, other, told in [
            (rules(), rules(), None),
            (rules(x), rules(x), None),
            # In another order, though no word is taken by both.
            (rules(x, y), rules(y, x), None),
            # Renamed.
            (rules(x), rules(("z", A)), ("a", ([("x", 0, 1)], 1), ([("z", 0, 1)], 1))),
            # A name in one book alone, but of a rule that no word has as its kind.
            (rules(x), rules(x, ("z", A)), None),
            (rules(x), rules(("z", A), x), ("a", ([("x", 0, 1)], 1), ([("z", 0, 1)], 1))),
            # Put in, taken out.
            (rules(x), rules(x, y), ("b", ([], 0), ([("y", 0, 1)], 1))),
            (rules(x, y), rules(y), ("a", ([("x", 0, 1)], 1), ([], 0))),
            (rules(x, y), rules(x, y, ("z", row(A, B))),
             ("ab", ([("x", 0, 1), ("y", 1, 2)], 2), ([("z", 0, 2)], 2))),
            # The names exchanged.
            (rules(x, y), rules(("y", A), ("x", B)), ("a", ([("x", 0, 1)], 1), ([("y", 0, 1)], 1))),
            # Other numbers, but the same names.
            (rules(("e", row()), x), rules(x), None),
            # Other shapes that take the same words.
            (rules(("w", row(A, many(A)))), rules(("w", row(many(A), A))), None),
            (rules(("w", many(AB))), rules(("w", times(AB, 0, 4))),
             ("aaaaa", ([("w", 0, 5)], 5), ([("w", 0, 4), ("w", 4, 5)], 5))),
        ]:
            self.assertEqual(altered(one_book, other), told, (one_book, other))

    def test_the_order_of_the_tongue(self):
        for tongue, text in [("ab", "ab"), ("ba", "ba")]:
            one_book = (tongue, (("x", many(A)), ("y", many(B))))
            other = (tongue, (*one_book[1], ("z", times(AB, 2, 2))))
            self.assertEqual(altered(one_book, other)[0], text)

    def test_against_all_short_texts(self):
        found, late = set(), 0
        for one_book, other in changed_books(120, seed=222):
            try:
                told = altered(one_book, other)
            except TooMany:
                continue
            texts = words_upto(one_book[0], 6 if len(one_book[0]) == 2 else 16)
            unlike = [text for text in texts if tried_cut(one_book, text) != tried_cut(other, text)][:1]
            if unlike:
                text = unlike[0]
                self.assertEqual(told, (text, tried_cut(one_book, text), tried_cut(other, text)))
                found.add(len(text))
                back = altered(other, one_book)
                self.assertEqual(back, (text, told[2], told[1]))
                self.assertEqual([type(told), type(told[1]), type(told[1][0])], [tuple, tuple, list])
            elif told is not None:
                self.assertNotIn(told[0], texts)
                late += 1
            else:
                found.add(None)
                self.assertIs(altered(other, one_book), None)
        self.assertTrue({None, 1, 2, 3, 4} <= found, found)
        self.assertLess(late, 5)

    def test_refusals_and_their_order(self):
        many_rooms = book(HEAVY)
        for one_book, other in [(book(A), many_rooms), (many_rooms, book(A)), (many_rooms, many_rooms),
                                (THIRTY_THREE, ("abc", ())), (("abc", ()), THIRTY_THREE)]:
            with self.assertRaises(TooMany):
                altered(one_book, other)
        for tongue in ["ba", "a", "abc", "cd"]:
            for one_book, other in [(book(A), (tongue, ())), ((tongue, ()), many_rooms), (many_rooms, (tongue, ()))]:
                with self.assertRaises(Unlike):
                    altered(one_book, other)
        with self.assertRaises(Unlike):
            altered(THIRTY_THREE, THIRTY_TWO)
        self.assertIs(altered(THIRTY_TWO, THIRTY_TWO), None)

    def test_nothing_is_changed(self):
        one_book, other = rules(("x", A), ("y", B)), rules(("y", A), ("x", B))
        is_kept(self, altered, one_book, other)
        is_own(self, altered, one_book, other)
        is_kept(self, named_cut, one_book, "abab")
        is_own(self, named_cut, one_book, "abab")
        for call in (idle, first_words):
            is_kept(self, call, one_book)
        is_kept(self, shared, one_book, 0, 1)
        is_kept(self, exchange_free, one_book, 0)


class IdleTest(unittest.TestCase):
    def test_by_hand(self):
        for shapes, words in [
            ((), ()), ((A,), ("a",)), ((A, A), ("a", None)), ((AB, A, B), ("a", None, None)),
            # Hidden by two together, and by neither of them alone.
            ((A, B, AB), ("a", "b", None)), ((A, AB), ("a", "b")),
            # These take only the word without signs.
            ((row(), times(A, 0, 0), many(row()), either(row(), row()), A), (None, None, None, None, "a")),
            ((many(AB), row(A, B), times(AB, 1, 3)), ("a", None, None)),
            ((row(A, B), many(AB)), ("ab", "a")),
            ((times(times(A, 3, 3), 3, 3), B), ("a" * 9, "b")),
        ]:
            each = book(*shapes)
            self.assertEqual(first_words(each), words)
            self.assertEqual(idle(each), tuple(at for at, word in enumerate(words) if word is None))
            self.assertEqual((type(first_words(each)), type(idle(each))), (tuple, tuple))

    def test_the_order_of_the_tongue(self):
        self.assertEqual(first_words(book(AB, tongue="ba")), ("b",))
        self.assertEqual(first_words(book(B, row(AB, AB), tongue="ba")), ("b", "bb"))

    def test_long_words(self):
        # What is left where neither 3 nor 2 part the count of signs but for a rest.
        each = book(row(many(row(A, A, A)), times(A, 1, 2)), row(many(row(A, A)), A), many(A), tongue="a")
        self.assertEqual(first_words(each), ("a", "aaa", "aaaaaa"))
        three, seven = row(A, A, A), row(A, times(row(A, A), 3, 3))
        each = book(many(three), many(seven))
        self.assertEqual(shared(each, 0, 1), "a" * 21)
        self.assertEqual(first_words(each), ("aaa", "a" * 7))
        each = book(HEAVY, tongue="ba")
        self.assertEqual(first_words(each), ("abbbbbbb",))

    def test_some_books(self):
        found = set()
        for each in small_books(200, seed=223, heaviest=7):
            size = 6 if len(each[0]) == 2 else 14
            least = {}
            for word in words_upto(each[0], size):
                least.setdefault(tried_kind(each, word), word)
            told = first_words(each)
            self.assertEqual(len(told), len(each[1]))
            for number, word in enumerate(told):
                if word is None or len(word) <= size:
                    self.assertEqual(word, least.get(number), each)
                else:
                    self.assertNotIn(number, least)
                    self.assertEqual(kind_by_trying(each, word), number)
                found.add(None if word is None else len(word))
            self.assertEqual(idle(each), tuple(number for number, word in enumerate(told) if word is None))
        self.assertTrue({None, 1, 2, 3, 4} <= found, found)

    def test_an_idle_rule_taken_out_alters_nothing(self):
        out = 0
        for each in small_books(150, seed=224):
            hidden = idle(each)
            for at in range(len(each[1])):
                self.assertIs(altered(each, without_rule(each, at)) is None, at in hidden, (each, at))
                out += at in hidden
        self.assertGreater(out, 50)


class SharedTest(unittest.TestCase):
    def test_by_hand(self):
        each = book(A, AB, B, row(), many(A), row(AB, AB))
        for numbers, word in [
            ((0, 1), "a"), ((1, 0), "a"), ((1, 2), "b"), ((0, 2), None), ((3, 4), None), ((0, 4), "a"), ((4, 5), "aa"),
            ((1, 5), None), ((0, 0), "a"), ((5, 5), "aa"), ((3, 3), None), ((4, 4), "a"), ((2, 2), "b"),
        ]:
            self.assertEqual(shared(each, *numbers), word, numbers)

    def test_rules_that_share_only_the_word_without_signs(self):
        each = book(many(A), many(B), row(), times(A, 0, 2))
        self.assertEqual([shared(each, 0, 1), shared(each, 0, 2), shared(each, 1, 3), shared(each, 0, 3)],
                         [None, None, None, "a"])

    def test_a_rule_ahead_of_both_does_not_matter(self):
        self.assertEqual(shared(book(many(AB), A, A), 1, 2), "a")

    def test_some_books(self):
        found = set()
        for each in small_books(150, seed=225, heaviest=7):
            size = 5 if len(each[0]) == 2 else 14
            taken = [[word for word in words_upto(each[0], size)[1:] if takes(shape, word)] for name, shape in each[1]]
            for one_at in range(len(taken)):
                for other in range(len(taken)):
                    both = [word for word in taken[one_at] if word in taken[other]]
                    word = shared(each, one_at, other)
                    if word is not None and len(word) > size:
                        self.assertFalse(both)
                        self.assertTrue(takes(each[1][one_at][1], word) and takes(each[1][other][1], word))
                    else:
                        self.assertEqual(word, both[0] if both else None, (each, one_at, other))
                    found.add(None if word is None else len(word))
        self.assertTrue({None, 1, 2, 3, 4} <= found)


class ExchangeTest(unittest.TestCase):
    def test_by_hand(self):
        for shapes, at, told in [
            ((A, B), 0, True), ((A, AB), 0, False), ((A, A), 0, False), ((row(), row()), 0, True),
            ((many(A), many(B)), 0, True), ((A, many(A)), 0, False), ((B, A, A), 1, False),
            # A third rule ahead takes all that both take, or not all of it.
            ((A, AB, A), 1, True), ((A, AB, AB), 1, False), ((A, B, AB, AB), 2, True),
            ((many(AB), A, many(A)), 1, True),
            ((many(A), AB, row(many(A), B)), 1, False),
            # One behind them doesn't matter.
            ((A, AB, many(AB)), 0, False), ((A, B, AB), 0, True), ((A, B, AB), 1, False),
        ]:
            self.assertIs(exchange_free(book(*shapes), at), told, (shapes, at))

    def test_just_where_nothing_is_altered(self):
        told = {True: 0, False: 0}
        for each in small_books(200, seed=226):
            for at in range(len(each[1]) - 1):
                free = exchange_free(each, at)
                self.assertIs(altered(each, exchanged(each, at)) is None, free, (each, at))
                told[free] += 1
        self.assertGreater(min(told.values()), 50)


class TooManyTest(unittest.TestCase):
    """None of the four refuses TooMany."""

    def test_thirty_three_rooms(self):
        for each in [THIRTY_THREE, book(HEAVY), book(HEAVY, A)]:
            with self.assertRaises(TooMany):
                table_of(each)
        self.assertEqual(first_words(THIRTY_THREE), ("aaaaa",))
        self.assertEqual(idle(THIRTY_THREE), ())
        self.assertEqual(shared(THIRTY_THREE, 0, 0), "aaaaa")
        each = book(HEAVY, A)
        self.assertEqual(first_words(each), ("a" * 8, "a"))
        self.assertEqual(idle(each), ())
        self.assertEqual(shared(each, 0, 0), "a" * 8)
        self.assertIs(shared(each, 0, 1), None)
        self.assertIs(exchange_free(each, 0), True)
        hidden = ("abc", (*THIRTY_THREE[1], ("all", many(one("abc"))), ("bee", B), ("none", row())))
        with self.assertRaises(TooMany):
            table_of(hidden)
        self.assertEqual(first_words(hidden), ("aaaaa", "a", None, None))
        self.assertEqual(idle(hidden), (2, 3))
        self.assertEqual([shared(hidden, 0, 1), shared(hidden, 0, 2), shared(hidden, 1, 2)], ["aaaaa", None, "b"])
        self.assertEqual([exchange_free(hidden, at) for at in range(3)], [False, False, True])

    def test_a_thousand_crowds(self):
        each = book(row(many(AB), A, times(AB, 4, 4), times(AB, 4, 4)))
        self.assertEqual(first_words(each), ("a" * 9,))
        self.assertEqual(idle(each), ())
        self.assertEqual(shared(each, 0, 0), "a" * 9)


class RuleMoreTest(unittest.TestCase):
    """A rule more alters a cut first by a piece of its own."""

    def test_a_rule_put_in_at_each_place(self):
        source = random.Random(227)
        altered_texts, longer, shorter_none = 0, 0, 0
        for each in small_books(100, seed=227, heaviest=6):
            shape = some_shape(source, each[0], source.randint(1, 3))
            if len(each[1]) == 6 or len(repr(shape)) > 100:
                continue
            texts = words_upto(each[0], 4) + [some_text(source, each[0], 40) for _ in range(4)]
            for at in range(len(each[1]) + 1):
                try:
                    more = with_rule(each, at, ("new", shape))
                    table_of(more)
                except (TooHeavy, TooMany):
                    continue
                for text in texts:
                    old, new = named_cut(each, text), named_cut(more, text)
                    if old == new:
                        continue
                    place = next(number for number, piece in enumerate(new[0]) if old[0][number:number + 1] != [piece])
                    name, start, end = new[0][place]
                    self.assertEqual(name, "new")
                    if place < len(old[0]):
                        self.assertEqual(old[0][place][1], start)
                        self.assertGreaterEqual(end, old[0][place][2])
                        longer += end > old[0][place][2]
                    else:
                        shorter_none += 1
                    altered_texts += 1
        self.assertGreater(min(altered_texts, longer, shorter_none), 100)

    def test_by_hand(self):
        each = rules(("x", A), ("y", B))
        more = with_rule(each, 1, ("new", row(A, B, A)))
        self.assertEqual(named_cut(more, "babab")[0], [("y", 0, 1), ("new", 1, 4), ("y", 4, 5)])
        self.assertEqual(cut(table_of(each), "babab")[0][1], (0, 1, 2))
