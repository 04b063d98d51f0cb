import random
import re
import unittest

from nearreach.booktexts import book_text
from nearreach.changes import altered, named_cut
from nearreach.cuttexts import cut_text
from nearreach.desk import Desk
from nearreach.errors import NoShape, TooMany
from nearreach.lates import late_holds
from nearreach.making import table_of
from nearreach.quotes import quoted, unquoted
from nearreach.reaches import reach
from nearreach.shapetexts import read_shape, shape_text
from nearreach.streams import Stream
from tests.helpers import many, odd_things, one, plain_is_book, plain_weight, row, small_books, times

A, B, AB = one("a"), one("b"), one("ab")
QUOTE = r"<((?:[^\\>\n]|\\[n>\\])*)>"
# In this rule's table a room tells which of the last five signs were an a.
FIVE = "(*<ab> <a> 4-4:<ab>)"
NINE = "(*<ab> <a> 4-4:<ab> 4-4:<ab>)"
ASKING = ["show", "rooms", "reach", "late 0", "kept", "state", "alter"]


class PlainDesk:
    """A desk by the document's words: it keeps all books that were, and feeds a new reader all parts each time."""

    def __init__(self):
        self.books, self.aside, self.parts = [None], None, []

    def do(self, line):
        told = self.answer(line)
        if told == "ok" and line != "keep":
            self.parts = []
        return told

    def answer(self, line):
        book = self.books[-1]
        if re.fullmatch("tongue " + QUOTE, line):
            tongue = unquoted(line[7:])
            return self.came((tongue, ())) if plain_is_book((tongue, ())) else "refused NoBook"
        if line == "undo":
            if len(self.books) == 1:
                return "refused NoPlace"
            del self.books[-1]
            return "ok"
        for pattern, call in [
            ("rule ([0-9]) ([a-z]{1,8}) (.*)", self.rule), ("drop ([a-z]{1,8})", self.drop), ("keep", self.keep),
            ("show", lambda: book_text(self.books[-1])), ("rooms", lambda: str(len(self.table()[1]))),
            ("reach", lambda: {None: "none"}.get(reach(self.table()), str(reach(self.table())))),
            ("late ([0-9]|[1-5][0-9]|60)", self.late), ("(cut) (" + QUOTE + ")", self.cut), ("alter", self.alter),
            ("(feed) (" + QUOTE + ")", self.cut), ("close", lambda: self.read(None)),
            ("kept", lambda: quoted(self.reader().kept())), ("state", self.state),
        ]:
            found = re.fullmatch(pattern, line)
            if found and (call != self.rule or self.shape(found[3]) is not None):
                return call(*found.groups()[:3]) if book is not None else "refused NoBook"
        return "refused NoLine"

    @staticmethod
    def shape(text):
        try:
            return read_shape(text)
        except NoShape:
            return None

    def table(self):
        return table_of(self.books[-1])

    def came(self, book):
        if sum(plain_weight(shape) for name, shape in book[1]) > 10:
            return "refused TooHeavy"
        try:
            table_of(book)
        except TooMany:
            return "refused TooMany"
        self.books.append(book)
        return "ok"

    def rule(self, at, name, text):
        tongue, rules = self.books[-1]
        if int(at) > len(rules):
            return "refused NoPlace"
        book = (tongue, rules[:int(at)] + ((name, self.shape(text)),) + rules[int(at):])
        return self.came(book) if plain_is_book(book) else "refused NoBook"

    def drop(self, name):
        tongue, rules = self.books[-1]
        left = tuple(rule for rule in rules if rule[0] != name)
        return self.came((tongue, left)) if left != rules else "refused NoPlace"

    def keep(self):
        self.aside = self.books[-1]
        return "ok"

    def late(self, number):
        told = reach(self.table())
        return "enough" if told is not None and told <= int(number) else "late"

    def cut(self, word, quote, signs):
        text = unquoted(quote)
        if word == "feed":
            return self.read(text)
        return cut_text(self.books[-1], text) if set(text) <= set(self.books[-1][0]) else "refused NoText"

    def alter(self):
        if self.aside is None:
            return "refused NoBook"
        if self.aside[0] != self.books[-1][0]:
            return "refused Unlike"
        told = altered(self.aside, self.books[-1])
        return "same" if told is None else "text " + quoted(told[0])

    def reader(self):
        reader = Stream(self.table())
        for part in self.parts:
            self.pieces = reader.close() if part is None else reader.feed(part)
        return reader

    def read(self, part):
        state = self.reader().state()
        if state != "open":
            return {"closed": "refused Closed", "stopped": "refused Stopped"}[state]
        if part is not None and not set(part) <= set(self.books[-1][0]):
            return "refused NoText"
        self.parts.append(part)
        self.reader()
        names = [name for name, shape in self.books[-1][1]]
        return "".join(f"{names[kind]} {start} {end}\n" for kind, start, end in self.pieces)

    def state(self):
        reader = self.reader()
        return reader.state() if reader.fault() is None else "stopped " + str(reader.fault())


class DeskTest(unittest.TestCase):
    def gone(self, *lines, desk=None):
        """A desk that was told lines, each with its answer; a line alone is answered with ok."""
        desk = desk or Desk()
        for line in lines:
            line, told = line if type(line) is tuple else (line, "ok")
            self.assertEqual(desk.do(line), told, line)
        return desk

    def some(self):
        return self.gone("tongue <ab>", "rule 0 x <a>", "rule 1 y <b>", "rule 0 z (<a> <b> <a>)")


class LinesTest(DeskTest):
    def test_book_lines(self):
        desk = self.gone(
            "tongue <ab>", ("show", "tongue <ab>\n"), "rule 0 x <a>", "rule 0 y <b>", "rule 1 z (<a> <b>)",
            ("show", "tongue <ab>\nrule y <b>\nrule z (<a> <b>)\nrule x <a>\n"), "drop z",
            ("show", "tongue <ab>\nrule y <b>\nrule x <a>\n"), "rule 2 last *<ab>",
            ("show", "tongue <ab>\nrule y <b>\nrule x <a>\nrule last *<ab>\n"),
            "tongue <\\n\\>>", ("show", "tongue <\\n\\>>\n"), "rule 0 x 0-2:<\\n>",
            ("show", "tongue <\\n\\>>\nrule x 0-2:<\\n>\n"))
        self.assertIs(type(desk.do("show")), str)

    def test_numbers(self):
        self.gone("tongue <ab>", ("rooms", "1"), ("reach", "0"), ("late 0", "enough"), "rule 0 x <a>", ("rooms", "3"),
                  ("reach", "0"), "rule 0 y (<a> <b> <a>)", ("rooms", "5"), ("reach", "2"), "rule 0 z (<b> *<a> <b>)",
                  ("reach", "2"), "rule 3 w <b>", ("reach", "none"))

    def test_late(self):
        desk = self.gone("tongue <ab>", "rule 0 x <a>", "rule 1 y (<a> *<b> <a>)")
        table = table_of(("ab", (("x", A), ("y", row(A, many(B), A)))))
        for number in range(61):
            told = desk.do("late " + str(number))
            found = re.fullmatch("late (" + QUOTE + ") (" + QUOTE + ")", told)
            self.assertTrue(found, told)
            self.assertIs(late_holds(table, number, unquoted(found[1]), unquoted(found[3])), True)
        self.gone("drop y", ("late 0", "enough"), ("late 60", "enough"), ("late 07", "refused NoLine"), desk=desk)
        desk = self.gone("tongue <\n>".replace("\n", "\\n"), "rule 0 x *<\\n>", ("late 1", "enough"),
                         ("late 7", "enough"))
        self.assertEqual(desk.do("late 0"), "late <\\n> <\\n\\n>")

    def test_the_numbers_of_late(self):
        for desk in (self.some(), Desk()):
            for number in ["61", "00", "07", "060", "", " 1", "1 ", "-1", "+1", "1.", "a", "100", "1_0", "\u0661",
                           "0x1"]:
                self.gone(("late " + number, "refused NoLine"), desk=desk)
        for number in ["0", "9", "10", "59", "60"]:
            self.assertNotIn("refused", self.some().do("late " + number))
            self.assertEqual(Desk().do("late " + number), "refused NoBook")

    def test_cut(self):
        self.gone("tongue <ab\\n>", "rule 0 word (<a> *<ab>)", "rule 1 feed <\\n>", ("cut <>", ""),
                  ("cut <ab\\na>", "word 1:1 <ab>\nfeed 1:3 <\\n>\nword 2:1 <a>\n"), ("cut <b>", "fault 1:1\n"),
                  ("cut <\\nb>", "feed 1:1 <\\n>\nfault 2:1\n"), ("state", "open"))

    def test_alter(self):
        self.gone("tongue <ab>", "rule 0 x <a>", ("alter", "refused NoBook"), "keep", ("alter", "same"),
                  "rule 1 y <b>", ("alter", "text <b>"), "drop y", ("alter", "same"), "drop x", ("alter", "text <a>"),
                  "rule 0 new <a>", ("alter", "text <a>"), "keep", ("alter", "same"), "rule 0 two (<a> <a>)",
                  ("alter", "text <aa>"), "tongue <ba>", ("alter", "refused Unlike"), "tongue <ab>",
                  ("alter", "text <a>"))
        self.gone("tongue <\\n>", "keep", "rule 0 x (<\\n> <\\n>)", ("alter", "text <\\n\\n>"))

    def test_reader(self):
        self.gone("tongue <ab>", "rule 0 x <a>", "rule 1 y (<a> <b> <a>)", "rule 2 z <b>", ("state", "open"),
                  ("kept", "<>"), ("feed <>", ""), ("feed <ab>", ""), ("kept", "<b>"),
                  ("feed <b>", "x 0 1\nz 1 2\nz 2 3\n"),
                  ("kept", "<>"), ("feed <abaa>", "y 3 6\n"), ("close", "x 6 7\n"), ("state", "closed"), ("kept", "<>"))
        self.gone("tongue <ab>", "rule 0 x <a>", ("feed <aab>", "x 0 1\nx 1 2\n"), ("state", "stopped 2"),
                  ("kept", "<>"),
                  ("feed <a>", "refused Stopped"), ("close", "refused Stopped"))
        self.gone("tongue <ab>", "rule 0 x <a>", "rule 1 y (<a> <b> <a>)", ("feed <ab>", ""), ("close", "x 0 1\n"),
                  ("state", "stopped 1"))
        self.gone("tongue <\\n>", "rule 0 x <\\n>", "rule 1 y 4-4:<\\n>", ("feed <\\n\\n\\n>", ""),
                  ("kept", "<\\n\\n>"))
        self.gone("tongue <ab>", ("close", ""), ("state", "closed"), ("close", "refused Closed"))

    def test_a_reader_that_is_fed_240_signs(self):
        desk = self.gone("tongue <ab>", "rule 0 x <a>", "rule 1 y (*<a> <b>)", ("feed <" + "a" * 239 + ">", ""))
        self.gone(("kept", "<" + "a" * 238 + ">"), ("feed <b>", "y 0 240\n"), ("close", ""), desk=desk)


class NewReaderTest(DeskTest):
    def fed(self):
        return self.gone(("feed <ab>", ""), ("kept", "<b>"), desk=self.some())

    def test_a_new_reader_behind_each_deed(self):
        for line in ["tongue <ab>", "rule 0 w 2-2:<b>", "drop y", "undo"]:
            desk = self.fed()
            self.gone(line, ("state", "open"), ("kept", "<>"), ("close", ""), desk=desk)
            desk = self.gone(("close", "x 0 1\ny 1 2\n"), desk=self.fed())
            self.gone(("state", "closed"), line, ("state", "open"), desk=desk)

    def test_none_behind_the_others(self):
        for line in ["keep", "show", "rooms", "reach", "late 0", "late 9", "cut <ab>", "cut <c>", "alter", "feed <>",
                     "kept",
                     "state", "nothing", "tongue <>", "tongue <aa>", "rule 9 w <a>", "rule 0 x <a>", "rule 0 w <c>",
                     "drop w",
                     "rule 0 w 4-4:4-4:<a>", "feed <c>", "tongue ab", "rule 0 w {}", ""]:
            desk = self.fed()
            desk.do(line)
            self.gone(("state", "open"), ("kept", "<b>"), ("close", "x 0 1\ny 1 2\n"), desk=desk)

    def test_undo_of_what_was_refused_is_none(self):
        desk = self.fed()
        self.gone("undo", "undo", "undo", ("show", "tongue <ab>\n"), "undo", ("undo", "refused NoPlace"), desk=desk)


class UndoTest(DeskTest):
    def test_over_several_deeds(self):
        desk = self.some()
        self.gone("drop x", "tongue <a>", "rule 0 q <a>", ("show", "tongue <a>\nrule q <a>\n"), "undo",
                  ("show", "tongue <a>\n"), "undo", ("show", "tongue <ab>\nrule z (<a> <b> <a>)\nrule y <b>\n"), "undo",
                  ("show", "tongue <ab>\nrule z (<a> <b> <a>)\nrule x <a>\nrule y <b>\n"), "undo", "rule 0 w <ab>",
                  ("show", "tongue <ab>\nrule w <ab>\nrule x <a>\nrule y <b>\n"), "undo",
                  ("show", "tongue <ab>\nrule x <a>\nrule y <b>\n"), "undo", "undo", ("show", "tongue <ab>\n"),
                  desk=desk)

    def test_back_to_no_book_and_on(self):
        desk = self.gone(("undo", "refused NoPlace"), "tongue <ab>", "undo", ("undo", "refused NoPlace"))
        for line in ["show", "rooms", "state", "feed <a>", "keep", "alter"]:
            self.gone((line, "refused NoBook"), desk=desk)
        self.gone("tongue <a>", ("show", "tongue <a>\n"), "rule 0 x <a>", "undo", "undo", ("show", "refused NoBook"),
                  ("undo", "refused NoPlace"), desk=desk)

    def test_keep_through_undo(self):
        desk = self.gone("tongue <ab>", "rule 0 x <a>", "keep", "undo", ("alter", "text <a>"), "undo",
                         ("alter", "refused NoBook"), "tongue <ab>", ("alter", "text <a>"), "rule 0 x <a>",
                         ("alter", "same"))
        # What was kept aside isn't undone, and keep is no deed.
        self.gone("drop x", "keep", "undo", ("alter", "text <a>"), "undo", "undo", ("undo", "refused NoPlace"),
                  desk=desk)

    def test_the_same_book_again(self):
        # A deed that makes the same book is a deed all the same.
        self.gone("tongue <ab>", "tongue <ab>", "undo", ("show", "tongue <ab>\n"), "undo", ("show", "refused NoBook"))


class RefusalTest(DeskTest):
    def test_no_line(self):
        lines = [
            "", " ", "nothing", "Tongue <ab>", "tongue", "tongue ", "tongue ab", "tongue <ab", "tongue <ab> ",
            "tongue  <ab>",
            " tongue <ab>", "tongue <a>b>", "tongue <a\\b>", "tongue<ab>", "rule", "rule 0", "rule 0 x", "rule 0 x ",
            "rule x <a>", "rule 0 <a>", "rule  0 x <a>", "rule 0  x <a>", "rule 0 x  <a>", "rule 0 x <a> ",
            "rule 10 x <a>",
            "rule 00 x <a>", "rule -1 x <a>", "rule a x <a>", "rule \u0660 x <a>", "rule 01 x <a>", "rule 012 x <a>",
            "rule 0 X <a>", "rule 0 abcdefghi <a>", "rule 0 x1 <a>", "rule 0 x {}", "rule 0 x <aa>", "rule 0 x <>",
            "rule 0 x 2-1:<a>", "rule 0 x *****<a>", "rule 0 x <a", "rule 0 x (<a>  <b>)", "rule 0 x " + "(" * 200,
            "drop",
            "drop ", "drop X", "drop abcdefghi", "drop x ", "drop  x", "drop x y", "drop <x>", "undo ", " undo",
            "undo undo",
            "undos", "keep ", "keep it", "show ", "show x", "rooms ", "reach 0", "alter ", "alter x", "close ",
            "close <a>",
            "kept ", "kept <>", "state ", "state open", "late", "late ", "late 61", "late 00", "late 07", "cut", "cut ",
            "cut a", "cut <a", "cut <a> ", "cut  <a>", "cut <a>b", "feed", "feed ", "feed a", "feed <a", "feed <a>>",
            "feed <\\a>", "do", "help", "drop x\n", "show\n", "tongue <ab>\n", "cut <a\nb>", "x" * 500,
        ]
        desk, empty = self.some(), Desk()
        ended = self.gone(("close", ""), desk=self.some())
        for line in lines:
            for each in (desk, empty, ended):
                self.assertEqual(each.do(line), "refused NoLine", line)
        self.assertEqual(desk.do("show"), self.some().do("show"))
        for thing in odd_things():
            self.assertEqual(desk.do(thing), "refused NoLine")

    def test_names(self):
        self.gone("tongue <ab>", "rule 0 abcdefgh <a>", "drop abcdefgh", ("rule 0 abcdefghi <a>", "refused NoLine"),
                  ("drop abcdefgh", "refused NoPlace"), ("drop abcdefghi", "refused NoLine"), "rule 0 x <a>", "drop x",
                  "rule 0 tongue <a>", "rule 0 rule <b>", "drop tongue")

    def test_no_book(self):
        desk = Desk()
        for line in ["rule 0 x <a>", "rule 9 x <a>", "drop x", "keep", "show", "rooms", "reach", "late 0", "cut <a>",
                     "cut <>",
                     "alter", "feed <a>", "feed <>", "close", "kept", "state", "tongue <>", "tongue <aa>",
                     "tongue <abcdefg>"]:
            self.assertEqual(desk.do(line), "refused NoBook", line)
        self.assertEqual(desk.do("undo"), "refused NoPlace")
        desk = self.some()
        for line in ["tongue <>", "tongue <aa>", "tongue <abcdefg>", "tongue <\\n\\n>", "alter", "rule 0 x <b>",
                     "rule 3 y <b>",
                     "rule 1 w <c>", "rule 1 w (<a> *<abc>)", "rule 1 w 0-0:<\\n>"]:
            self.assertEqual(desk.do(line), "refused NoBook", line)

    def test_no_place(self):
        desk = self.some()
        for line in ["rule 4 w <a>", "rule 9 w <a>", "drop w", "drop xx", "drop abcdefgh"]:
            self.assertEqual(desk.do(line), "refused NoPlace", line)
        self.assertEqual(desk.do("rule 3 w <a>"), "ok")

    def test_six_rules(self):
        desk = self.gone("tongue <a>", *["rule 0 " + name + " <a>" for name in "uvwxyz"])
        for at in range(7):
            self.assertEqual(desk.do(f"rule {at} more <a>"), "refused NoBook")
        self.assertEqual(desk.do("rule 7 more <a>"), "refused NoPlace")

    def test_too_heavy(self):
        desk = self.gone("tongue <ab>", "rule 0 x 4-4:(<a> <b>)", "rule 1 y 0-2:<a>")
        for line in ["rule 0 z <a>", "rule 2 z *<b>", "rule 1 z 4-4:4-4:<ab>"]:
            self.assertEqual(desk.do(line), "refused TooHeavy")
        self.gone("rule 0 z ()", "drop y", "rule 0 w <a>", "rule 0 v <a>", ("rule 0 u <a>", "refused TooHeavy"),
                  desk=desk)

    def test_thirty_two_and_thirty_three_rooms(self):
        # Of rule.
        self.gone("tongue <ab>", "rule 0 x " + FIVE, ("rooms", "32"), ("cut <abbbb>", "x 1:1 <abbbb>\n"))
        self.gone("tongue <abc>", ("rule 0 x " + FIVE, "refused TooMany"), ("rooms", "1"), ("show", "tongue <abc>\n"),
                  "undo",
                  ("undo", "refused NoPlace"))
        # Of drop: the rule ahead hid the other one.
        self.gone("tongue <ab>", "rule 0 all *<ab>", "rule 1 x " + FIVE, ("rooms", "2"), "drop all", ("rooms", "32"))
        desk = self.gone("tongue <abc>", "rule 0 all *<abc>", "rule 1 x " + FIVE, ("rooms", "2"))
        self.gone(("feed <ab>", ""), ("drop all", "refused TooMany"), ("close", "all 0 2\n"), ("rooms", "2"), "drop x",
                  "undo", ("rooms", "2"), desk=desk)

    def test_no_text(self):
        desk = self.some()
        for line in ["cut <c>", "cut <abc>", "cut <a\\n>", "cut < >", "feed <c>", "feed <abc>", "feed <\\>>"]:
            self.assertEqual(desk.do(line), "refused NoText", line)
        self.assertEqual(desk.do("state"), "open")

    def test_unlike(self):
        desk = self.gone("keep", "tongue <ba>", ("alter", "refused Unlike"), "tongue <a>", ("alter", "refused Unlike"),
                         "tongue <abc>", ("alter", "refused Unlike"), desk=self.some())
        self.gone("keep", ("alter", "same"), desk=desk)

    def test_closed_and_stopped(self):
        self.gone(("close", ""), ("feed <a>", "refused Closed"), ("feed <c>", "refused Closed"),
                  ("feed <>", "refused Closed"),
                  ("close", "refused Closed"), ("cut <c>", "refused NoText"), ("state", "closed"), desk=self.some())
        self.gone("tongue <ab>", ("feed <a>", ""), ("state", "stopped 0"), ("feed <a>", "refused Stopped"),
                  ("feed <c>", "refused Stopped"), ("close", "refused Stopped"), ("state", "stopped 0"))

    def test_the_order_where_two_are_due(self):
        for line, told in [
            # NoLine goes ahead of all.
            ("rule 9 X <c>", "refused NoLine"), ("drop Q", "refused NoLine"), ("cut <c", "refused NoLine"),
            ("rule 9 x {}", "refused NoLine"), ("feed <c>>", "refused NoLine"),
            # NoPlace goes ahead of NoBook and TooHeavy.
            ("rule 4 x <c>", "refused NoPlace"), ("rule 4 w 4-4:4-4:<a>", "refused NoPlace"),
            ("rule 4 w " + NINE, "refused NoPlace"),
            # NoBook goes ahead of TooHeavy, and that of TooMany.
            ("rule 0 x 4-4:4-4:<a>", "refused NoBook"), ("rule 0 w 4-4:4-4:<c>", "refused NoBook"),
            ("rule 0 w " + NINE, "refused TooHeavy"),
        ]:
            self.gone((line, told), desk=self.some())
        self.gone("tongue <ab>", ("rule 0 w " + NINE, "refused TooMany"))
        for line, told in [("rule 9 X <a>", "refused NoLine"), ("rule 9 x <a>", "refused NoBook"),
                           ("cut <c", "refused NoLine"), ("feed <c>", "refused NoBook"), ("drop X", "refused NoLine"),
                           ("late 61", "refused NoLine"), ("late 60", "refused NoBook"),
                           ("rule 0 x 4-4:4-4:<a>", "refused NoBook")]:
            self.gone((line, told))
        ended = self.gone(("close", ""), desk=self.some())
        for line, told in [("feed <c", "refused NoLine"), ("feed <c>", "refused Closed")]:
            self.gone((line, told), desk=ended)
        # Without a book there is no reader that could be closed.
        self.gone("tongue <ab>", ("close", ""), "undo", ("feed <a>", "refused NoBook"), ("close", "refused NoBook"))
        # A book that lacks goes ahead of unlike tongues.
        self.gone("tongue <ab>", "keep", "undo", ("alter", "refused NoBook"))

    def test_a_refused_line_changes_nothing(self):
        refused = ["x", "tongue <aa>", "rule 0 w <c>", "rule 9 w <a>", "rule 0 w " + NINE, "rule 0 w 4-4:4-4:<a>",
                   "drop w",
                   "feed <c>", "cut <c>", "late 61", "tongue <"]
        lines = ["tongue <ab>", "rule 0 x <a>", "keep", "rule 1 y (<a> <b> <a>)", "feed <ab>", "kept", "feed <a>",
                 "alter",
                 "drop x", "feed <ab>", "state", "undo", "alter", "feed <aa>", "close", "undo", "show", "undo", "undo"]
        desk, other = Desk(), Desk()
        for line in lines:
            for bad in refused:
                self.assertTrue(other.do(bad).startswith("refused "), bad)
                self.assertEqual([desk.do(ask) for ask in ASKING], [other.do(ask) for ask in ASKING])
            self.assertEqual(desk.do(line), other.do(line), line)


class ManyLinesTest(DeskTest):
    def lines(self, source, shapes):
        text = "".join(source.choice("aaabb" + source.choice("abc")) for _ in range(source.randint(0, 6)))
        name = source.choice("xyzuvw")
        odd = [FIVE, "(*<abc> <a> 4-4:<abc>)", NINE, "4-4:4-4:<a>", "<c>", "{}"]
        return source.choice([
            lambda: "tongue <" + source.choice(["ab", "ab", "ab", "ab", "ba", "abc", "aa", "", "a\\n"]) + ">",
            lambda: f"rule {source.randint(0, 3)} {name} {source.choice(shapes)}",
            lambda: f"rule 0 {name} {source.choice(shapes)}",
            lambda: f"rule {source.randint(0, 9)} {name} {source.choice(odd)}",
            lambda: f"rule 0 {name} {source.choice(odd)}",
            lambda: "drop " + name, lambda: "undo", lambda: "keep", lambda: "show", lambda: "rooms", lambda: "reach",
            lambda: "late " + str(source.randint(0, 4)), lambda: "cut <" + text + ">", lambda: "alter",
            lambda: "feed <" + text + ">", lambda: "feed <" + text[:2] + ">",
            lambda: "close" if source.random() < .4 else "kept",
            lambda: "kept", lambda: "state", lambda: source.choice(["", "show ", "late 61", "cut <", "drop X",
                                                                    "rule 0 x"]),
        ])()

    def test_against_a_plain_desk(self):
        source = random.Random(311)
        shapes = [shape_text(shape) for each in small_books(40, seed=311, tongues=("ab",)) for name, shape in each[1]]
        shapes = [text for text in shapes if len(text) < 40]
        answers = {}
        for _ in range(150):
            desk, plain = Desk(), PlainDesk()
            for line in ["tongue <ab>"] + [self.lines(source, shapes) for _ in range(60)]:
                told, wanted = desk.do(line), plain.do(line)
                if line.startswith("late ") and wanted == "late":
                    one_text, other = re.fullmatch("late (<.*>) (<.*>)", told).groups()
                    self.assertTrue(late_holds(plain.table(), int(line[5:]), unquoted(one_text), unquoted(other)))
                else:
                    self.assertEqual(told, wanted, line)
                key = told if told.startswith("refused") else line.split(" ")[0]
                answers[key] = answers.get(key, 0) + 1
        for word in ["NoLine", "NoBook", "NoPlace", "TooHeavy", "TooMany", "NoText", "Unlike", "Closed", "Stopped"]:
            self.assertGreater(answers.get("refused " + word, 0), 3, word)
        self.assertGreater(min(answers[word] for word in "tongue rule drop undo keep show feed close alter".split()),
                           20)

    def test_the_cut_and_the_reader_tell_alike(self):
        desk = self.some()
        book = ("ab", (("z", row(A, B, A)), ("x", A), ("y", B)))
        self.assertEqual(desk.do("show"), book_text(book))
        told = "".join(desk.do(f"feed <{sign}>") for sign in "abaabbab") + desk.do("close")
        pieces, place = named_cut(book, "abaabbab")
        self.assertEqual(told, "".join(f"{name} {start} {end}\n" for name, start, end in pieces))

    def test_two_desks(self):
        one_desk, other = self.some(), Desk()
        self.assertEqual([one_desk.do("rooms"), other.do("rooms")], ["6", "refused NoBook"])
        other.do("tongue <a>")
        self.assertEqual([one_desk.do("show").count("\n"), other.do("show")], [4, "tongue <a>\n"])

    def test_asked_again(self):
        desk = self.gone("keep", desk=self.some())
        for line in ASKING + ["cut <abab>", "late 1"]:
            self.assertEqual(desk.do(line), desk.do(line))

    def test_times_are_read(self):
        self.gone("tongue <ab>", "rule 0 x 2-3:<a>", ("cut <aaaaa>", "x 1:1 <aaa>\nx 1:4 <aa>\n"))
        self.assertEqual(read_shape("2-3:<a>"), times(A, 2, 3))
