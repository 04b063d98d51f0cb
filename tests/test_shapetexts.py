import inspect
import random
import sys
import unittest

from nearreach.errors import NoShape
from nearreach.shapes import is_shape, parts_of
from nearreach.shapetexts import read_shape, shape_text
from tests.helpers import either, is_kept, many, odd_things, one, row, some_shapes, times, words_upto

A, B, C = one("a"), one("b"), one("c")


def plain_text(shape):
    if shape[0] == "one":
        return "<" + shape[1].replace("\\", "\\\\").replace(">", "\\>").replace("\n", "\\n") + ">"
    if shape[0] == "many":
        return "*" + plain_text(shape[1])
    if shape[0] == "times":
        return str(shape[2]) + "-" + str(shape[3]) + ":" + plain_text(shape[1])
    inside = " ".join(map(plain_text, shape[1]))
    return "(" + inside + ")" if shape[0] == "row" else "{" + inside + "}"


class WriteTest(unittest.TestCase):
    def test_by_hand(self):
        for shape, text in [
            (A, "<a>"), (one("abcdef"), "<abcdef>"), (one("\n"), "<\\n>"), (one(">\\<"), "<\\>\\\\<>"),
            (one(" "), "< >"),
            (row(), "()"), (row(A), "(<a>)"), (row(A, B), "(<a> <b>)"), (either(A), "{<a>}"),
            (either(A, B), "{<a> <b>}"),
            (many(A), "*<a>"), (many(many(row())), "**()"), (times(A, 0, 4), "0-4:<a>"), (times(A, 2, 2), "2-2:<a>"),
            (times(times(A, 1, 3), 0, 0), "0-0:1-3:<a>"), (many(times(A, 1, 2)), "*1-2:<a>"),
            (times(many(A), 1, 2), "1-2:*<a>"), (row(row(), row()), "(() ())"), (either(row(), many(A)), "{() *<a>}"),
            (row(A, many(one("bc")), times(either(A, row(B, C)), 2, 3)), "(<a> *<bc> 2-3:{<a> (<b> <c>)})"),
            (one("(){}*:"), "<(){}*:>"), (row(one(")"), one(" ")), "(<)> < >)"),
        ]:
            self.assertEqual(shape_text(shape), text)
            self.assertEqual(read_shape(text), shape)
            self.assertEqual(plain_text(shape), text)

    def test_great_shapes(self):
        five = many(many(many(many(A))))
        six = row(A, A, A, A, A, A)
        twenty_four = row(six, six, six, row(B))
        self.assertEqual(len(parts_of(twenty_four)), 24)
        signs = row(one("\n>\\<()"), times(one("{}*: -"), 0, 4))
        for shape in [five, six, twenty_four, either(*[one("abcdef")] * 6), signs, times(five[1], 4, 4)]:
            self.assertTrue(is_shape(shape))
            self.assertEqual(read_shape(shape_text(shape)), shape)

    def test_some_shapes_there_and_back(self):
        for seed, signs in [(281, "ab"), (282, "\n>\\<"), (283, "(){}*: ")]:
            told = 0
            for shape in some_shapes(300, signs=signs[:6], deepest=5, seed=seed):
                if is_shape(shape):
                    self.assertEqual(shape_text(shape), plain_text(shape))
                    self.assertEqual(read_shape(shape_text(shape)), shape)
                    told += 1
                else:
                    with self.assertRaises(NoShape):
                        read_shape(plain_text(shape))
            self.assertGreater(told, 200)

    def test_kinds_of_values(self):
        told = read_shape("2-3:{<a> ()}")
        self.assertEqual(repr(told), repr(times(either(A, row()), 2, 3)))

    def test_nothing_is_changed(self):
        is_kept(self, shape_text, row(A, times(B, 1, 2)))
        is_kept(self, read_shape, "(<a> 1-2:<b>)")


class ReadTest(unittest.TestCase):
    def refused(self, text):
        with self.assertRaises(NoShape, msg=repr(text)[:200]):
            read_shape(text)

    def test_by_hand(self):
        for text in [
            # Too deep, too many parts.
            "*****<a>", "(((((<a>)))))", "*****()", "0-1:****<a>", "{{{{{<a>}}}}}",
            "(" + " ".join(["(<a> <a> <a> <a> <a> <a>)"] * 3 + ["(<a> <a>)"]) + ")",
            "(<a> <a> <a> <a> <a> <a> <a>)", "{<a> <a> <a> <a> <a> <a> <a>}", "(() () () () () () ())",
            # An either without parts.
            "{}", "*{}", "({})",
            # Times.
            "2-1:<a>", "0-5:<a>", "5-5:<a>", "9-9:<a>", "4-3:<a>", "01-2:<a>", "1-02:<a>", "1-10:<a>", "10-10:<a>",
            "-1-2:<a>", "1-2<a>", "1-2:", "1:<a>", "-2:<a>", "1-:<a>", "1-2: <a>", "1 -2:<a>", "1--2:<a>", "a-b:<a>",
            "1-2", "1-", "1", "\u0661-2:<a>", "\u00b2-3:<a>", "1-2::<a>", "1-2:1-2:",
            # Blanks.
            " <a>", "<a> ", "( <a>)", "(<a> )", "(<a>  <b>)", "(<a><b>)", "( )", "* <a>", "{ <a>}", "{<a> }",
            "(<a>\n<b>)",
            # Something ahead or behind, or lacking.
            "", "a", "<a>a", "a<a>", "<a><a>", "<a> <b>", "()()", "(<a>))", "((<a>)", "(<a>", "(", ")", "{", "}", "*",
            "(<a>}",
            "{<a>)", "<a>*", "<a>\n", "\n<a>", "()a", "(<a> <b>", "(,)", "[<a>]", "row", "(<a>,<b>)", "<a>>", "(*)",
            "(<a> *)",
            # Quotes.
            "<>", "<aa>", "<aba>", "<abcdefg>", "<\\n\\n>", "<a", "a>", "<a\\b>", "<a\nb>", "<\\>", "<", ">", "(<>)",
            "*<>",
            "<\u00e9>", "<%>", "<\t>",
        ]:
            self.refused(text)

    def test_two_hundred_signs(self):
        for sign in "({*:":
            self.refused(sign * 200)
            self.refused(sign * 200 + "<a>")
        self.refused("1-1:" * 125)
        self.refused("1-1:" * 120 + "<a>")
        self.refused("*" * 200 + "<a>")
        self.refused("(" * 200 + "<a>" + ")" * 200)
        self.refused("{" * 100 + "*" * 100 + "<a>" + "}" * 100)
        self.refused("(" + " ".join(["()"] * 166) + ")")
        self.refused("(" + " ".join(["*<a>"] * 99) + ")")
        self.refused("<" + "(" * 200 + ">")
        self.refused("(((" + "*" * 190)
        self.refused("(((((((" * 28)

    def test_a_deep_text_is_given_up_early(self):
        limit = sys.getrecursionlimit()
        try:
            sys.setrecursionlimit(len(inspect.stack()) + 60)
            for text in ["(" * 200, "*" * 200 + "<a>", "1-1:" * 120 + "<a>", "{(" * 100, "((((" + "*" * 190]:
                self.refused(text)
            self.assertEqual(read_shape("****<a>"), many(many(many(many(A)))))
        finally:
            sys.setrecursionlimit(limit)

    def test_all_short_texts(self):
        """A text is read just where it is the writing of what is read."""
        told = set()
        for signs, size in [("<a>*( )", 6), ("<a>{}1-2:", 5)]:
            for text in words_upto(signs, size):
                try:
                    shape = read_shape(text)
                except NoShape:
                    continue
                self.assertTrue(is_shape(shape))
                self.assertEqual(plain_text(shape), text)
                told.add(text)
        self.assertTrue({"<a>", "*<a>", "()", "(<a>)", "**<a>", "(())", "{<a>}", "*()", "(*())"} <= told, told)
        # Nothing that can be written so is refused.
        small = [A, row(), one("("), one("*"), one(" "), one(")"), many(A), many(row()), row(A), row(row()), either(A)]
        self.assertTrue({plain_text(shape) for shape in small if len(plain_text(shape)) <= 5} <= told)

    def test_changed_writings(self):
        """A sign more, less or another: read only where what is read is written so."""
        source = random.Random(284)
        read, refused = 0, 0
        for shape in some_shapes(60, deepest=4, seed=284):
            text = plain_text(shape)
            if not is_shape(shape):
                continue
            for _ in range(40):
                at = source.randrange(len(text) + 1)
                sign = source.choice("<>(){}* 012-:ab\\")
                other = source.choice([text[:at] + sign + text[at:], text[:at] + text[at + 1:],
                                       text[:at] + sign + text[at + 1:]])
                try:
                    told = read_shape(other)
                except NoShape:
                    refused += 1
                    continue
                self.assertEqual(plain_text(told), other)
                self.assertTrue(is_shape(told))
                read += 1
        self.assertGreater(min(read, refused), 200)

    def test_odd_things(self):
        for thing in odd_things():
            self.refused(thing)
