import unittest

from nearreach.hopes import hopes
from nearreach.making import table_of
from nearreach.reaches import heights, heights_hold, reach, reach_of
from tests.helpers import (
    ENDLESS, FARTHEST, EqualToAll, book, changed, is_kept, many, odd_things, one, plain_first, plain_reach, row,
    small_tables, walk, words_upto,
)

A, B, C = one("a"), one("b"), one("c")
STILL = ("ab", ((1, 0), (0, 1)), (-1, -1))
# a and abab, and b.
SOME = table_of(book(A, row(A, B, A, B), B))


def is_enough(table, number, texts, kind=None):
    """Whether a number is enough, as far as these texts tell, by the document's own words."""
    firsts = {text: plain_first(table, text, 0) for text in texts}
    for text in texts:
        if firsts[text] is None or kind not in (None, firsts[text][0]):
            continue
        seen = firsts[text][1] + number
        for other in texts:
            if text[:seen] == other[:seen] and firsts[other] != firsts[text]:
                return False
    return True


def plain_heights(table):
    """The heights by the document's words, each by trying all words that are short enough."""
    tongue, goes, kinds = table
    rooms = range(len(goes))
    if plain_reach(table, [room for room in rooms if kinds[room] != -1]) is None:
        return None
    hope = [any(kinds[walk(table, room, word)] != -1 for word in words_upto(tongue, len(goes))[1:]) for room in rooms]
    behind = {room for room in rooms if kinds[room] != -1}
    for _ in rooms:
        behind |= {to for room in behind for to in goes[room] if kinds[to] == -1 and hope[to]}

    def height(room):
        if kinds[room] == -1 and not hope[room]:
            return -1
        if room not in behind:
            return -2
        most = 0
        for word in words_upto(tongue, len(goes) + 1)[1:]:
            met = [kinds[walk(table, room, word[:end])] != -1 for end in range(1, len(word) + 1)]
            most = max(most, len(word)) if met[-1] and not any(met[:-1]) else most
        return most

    return tuple(height(room) for room in rooms)


def plain_holds(table, number, rows):
    """The document's words, one behind the other."""
    tongue, goes, kinds = table
    if type(rows) is not tuple or len(rows) != len(goes):
        return False
    if not all(type(high) is int and high >= -2 for high in rows):
        return False
    for room, high in enumerate(rows):
        led = [(kinds[to] != -1, rows[to]) for to in goes[room]]
        if kinds[room] != -1 and (high < 0 or high > number):
            return False
        if high in (-1, -2) and kinds[room] != -1:
            return False
        if high == -1 and any(kind or other != -1 for kind, other in led):
            return False
        if high >= 0 and any(other == -2 for kind, other in led):
            return False
        if high >= 0 and any(kind and not high >= 1 for kind, other in led):
            return False
        if high >= 0 and any(not kind and other >= 0 and not high >= other + 1 for kind, other in led):
            return False
    return True


class ReachTest(unittest.TestCase):
    def test_by_hand(self):
        for table, told in [
            (STILL, 0), (("a", ((0,),), (-1,)), 0), (table_of(book(A)), 0), (table_of(book(A, B)), 0),
            (table_of(book(row(A, A, B))), 0), (table_of(book(row(A, many(A)))), 1), (table_of(book(many(A))), 1),
            (table_of(book(A, row(A, B))), 1), (table_of(book(A, row(A, B, A))), 2), (SOME, 3),
            (table_of(book(many(row(A, A, A)))), 3), (table_of(book(row(A, many(B), A))), 0),
            (table_of(book(row(A, many(row(B, A))))), 2), (table_of(book(A, row(A, row(*[A] * 4), row(*[B] * 4)))), 8),
            (table_of(book(A, row(A, many(B), A))), None), (ENDLESS, None), (FARTHEST, 32),
            (table_of(book(A, row(many(A), B))), None),
        ]:
            self.assertEqual(reach(table), told, table)

    def test_the_greatest(self):
        self.assertEqual(reach(FARTHEST), 32)
        chain = tuple((min(room + 1, 31),) for room in range(32))
        self.assertEqual(reach(("a", chain, (-1, 0) + (-1,) * 29 + (0,))), 30)

    def test_of_kinds(self):
        self.assertEqual([reach_of(SOME, kind) for kind in range(6)], [3, 0, 0, 0, 0, 0])
        self.assertEqual([reach_of(ENDLESS, kind) for kind in range(6)], [None, 0, 0, 0, 0, 0])
        self.assertEqual([reach_of(STILL, kind) for kind in range(6)], [0] * 6)
        each = table_of(book(A, row(A, B, A), B, row(B, many(A), C), many(C), tongue="abc"))
        self.assertEqual([reach_of(each, kind) for kind in range(6)], [2, 0, None, 0, 1, 0])
        self.assertIs(reach(each), None)

    def test_a_room_with_a_kind_between_ends_a_step(self):
        # From a on a longer piece comes at once, and only behind that one none for long.
        each = table_of(book(A, row(A, B), row(A, B, A, A, A, B)))
        self.assertEqual([reach_of(each, kind) for kind in range(3)], [1, 4, 0])
        each = table_of(book(A, row(A, B), row(A, B, many(A), B)))
        self.assertEqual([reach_of(each, kind) for kind in range(3)], [1, None, 0])

    def test_a_round_without_hope_does_not_count(self):
        # Behind an a signs go round for ever, but to no kind.
        self.assertEqual(reach(("ab", ((1, 2), (2, 2), (2, 2)), (-1, 0, -1))), 0)
        # A round ahead of every piece doesn't either.
        self.assertEqual(reach(table_of(book(row(many(B), A)))), 0)

    def test_some_tables(self):
        found = {}
        for table in small_tables(300, seed=91):
            kinds = table[2]
            told = plain_reach(table, [room for room in range(len(kinds)) if kinds[room] != -1])
            self.assertEqual(reach(table), told, table)
            for kind in range(6):
                told_of = plain_reach(table, [room for room in range(len(kinds)) if kinds[room] == kind])
                self.assertEqual(reach_of(table, kind), told_of, (table, kind))
            found[told] = found.get(told, 0) + 1
        self.assertTrue({0, 1, 2, 3, 4, None} <= set(found), found)

    def test_enough_by_all_short_texts(self):
        texts = {tongue: words_upto(tongue, 24 if len(tongue) == 1 else 6) for tongue in ("a", "ab", "ba")}
        looked = set()
        for table in small_tables(60, seed=92, most=3):
            told = reach(table)
            for number in range(4):
                enough = told is not None and number >= told
                self.assertIs(is_enough(table, number, texts[table[0]]), enough, (table, number))
                looked.add((told, enough))
            for kind in (0, 1, 2):
                told = reach_of(table, kind)
                for number in range(3):
                    enough = told is not None and number >= told
                    self.assertIs(is_enough(table, number, texts[table[0]], kind), enough, (table, number, kind))
        self.assertTrue({(0, True), (1, True), (1, False), (2, True), (2, False), (None, False)} <= looked)

    def test_nothing_is_changed(self):
        for table in small_tables(20, seed=93) + [ENDLESS, FARTHEST]:
            is_kept(self, reach, table)
            is_kept(self, reach_of, table, 1)
            is_kept(self, heights, table)
            is_kept(self, heights_hold, table, 3, heights(table))
            is_kept(self, heights_hold, table, 3, [[0], {}])


class HeightTest(unittest.TestCase):
    def test_by_hand(self):
        self.assertEqual(heights(STILL), (-1, -1))
        self.assertEqual(heights(table_of(book(A))), (-2, 0, -1))
        self.assertEqual(heights(table_of(book(many(A)))), (-2, 1, -1))
        self.assertIs(heights(ENDLESS), None)
        # Rooms in the order of a, b, ab, the one without hope, aba, abab.
        self.assertEqual(SOME[2], (-1, 0, 2, -1, -1, -1, 1))
        self.assertEqual(heights(SOME), (-2, 3, 0, -1, 2, 1, 0))
        # Room 0 is behind a piece here, as a sign leads back to it.
        self.assertEqual(heights(("a", ((1,), (0,)), (-1, 0))), (1, 2))
        self.assertEqual(heights(FARTHEST), (1, 32) + tuple(range(31, 1, -1)))

    def test_some_tables(self):
        found, none = set(), 0
        for table in small_tables(300, seed=94):
            told = heights(table)
            self.assertEqual(told, plain_heights(table), table)
            if told is None:
                self.assertIs(reach(table), None)
                none += 1
                continue
            found |= set(told)
            self.assertIs(heights_hold(table, reach(table), told), True)
            self.assertIs(heights_hold(table, reach(table) + 1, told), True)
            self.assertIs(heights_hold(table, 10 ** 999, told), True)
            if reach(table) > 0:
                self.assertIs(heights_hold(table, reach(table) - 1, told), False)
        self.assertGreater(none, 20)
        self.assertTrue({-2, -1, 0, 1, 2, 3} <= found)


class HoldTest(unittest.TestCase):
    def test_greater_heights(self):
        self.assertIs(heights_hold(SOME, 3, (-2, 3, 0, -1, 2, 1, 0)), True)
        self.assertIs(heights_hold(SOME, 3, (-2, 3, 3, -1, 2, 1, 3)), True)
        self.assertIs(heights_hold(SOME, 4, (4, 4, 3, -1, 3, 2, 4)), True)
        self.assertIs(heights_hold(SOME, 3, (4, 4, 3, -1, 3, 2, 4)), False)
        self.assertIs(heights_hold(SOME, 3, (10 ** 999, 3, 0, -1, 2, 1, 0)), True)
        # A room from which nothing leads on may have 0 or more, or -2, where all that lead there allow it.
        self.assertIs(heights_hold(("ab", ((1, 2), (2, 2), (2, 2)), (-1, 0, -1)), 0, (-2, 0, -2)), False)
        self.assertIs(heights_hold(("ab", ((1, 2), (2, 2), (2, 2)), (-1, 0, -1)), 5, (-2, 0, 0)), False)
        self.assertIs(heights_hold(("ab", ((1, 0), (2, 2), (2, 2)), (-1, 0, -1)), 5, (-2, 5, -1)), True)

    def test_no_number_where_the_reach_is_none(self):
        for rows in [(-2, 5, 4, -1, 0), (-2, 5, -1, -1, 0), (-2, 5, -2, -1, 0), (-2, 1, 0, -1, 0)]:
            self.assertIs(heights_hold(ENDLESS, 9, rows), False)

    def test_no_less_than_the_reach(self):
        """All heights of small tables are tried: none holds for a lesser number than the reach."""
        for table in small_tables(25, seed=95, most=3):
            rooms, told = len(table[1]), reach(table)
            rows = [()]
            for _ in range(rooms):
                rows = [row + (high,) for row in rows for high in range(-2, 5)]
            for number in range(4):
                held = [row for row in rows if heights_hold(table, number, row)]
                self.assertEqual(held, [row for row in rows if plain_holds(table, number, row)])
                self.assertIs(bool(held), told is not None and number >= told, (table, number))

    def test_changed_rows(self):
        good = 0
        for table in small_tables(60, seed=96) + [SOME, STILL]:
            told = heights(table)
            if told is None:
                continue
            for number in (reach(table), reach(table) + 1):
                for rows in changed(told):
                    self.assertIs(heights_hold(table, number, rows), plain_holds(table, number, rows),
                                  (table, number, repr(rows)[:200]))
                    good += heights_hold(table, number, rows)
        self.assertGreater(good, 20)

    def test_odd_things(self):
        for thing in odd_things():
            self.assertIs(heights_hold(SOME, 3, thing), False)
            self.assertIs(heights_hold(SOME, 3, (-2, thing, 0, -1, 2, 1, 0)), False)
            self.assertIs(heights_hold(SOME, 3, (-2, 3, 0, thing, 2, 1, 0)), repr(thing) == "-1")
        for rows in [[-2, 3, 0, -1, 2, 1, 0], (-2, 3, 0, -1, 2, 1), (-2, 3, 0, -1, 2, 1, 0, 0), (-3, 3, 0, -1, 2, 1, 0),
                     (-2, 3, False, -1, 2, 1, 0), (-2, 3, 0, -1, 2, True, 0), (-2, 3, 0, -1, 2, 1, None),
                     (-2, 3, 0, -1, 2, EqualToAll(), 0), (-2, 3, 0, -1, 2, "1", 0), (-2, 3, 0, -1, 2, (1,), 0)]:
            self.assertIs(heights_hold(SOME, 3, rows), False, rows)

    def test_hope_is_none_just_with_minus_one(self):
        for table in small_tables(100, seed=97):
            told = heights(table)
            if told is not None:
                self.assertEqual([high == -1 for high in told],
                                 [not hope and kind == -1 for hope, kind in zip(hopes(table), table[2])])
