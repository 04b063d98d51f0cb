import random
import unittest

from nearreach.folds import folding, folding_holds
from nearreach.least import least_of
from tests.helpers import (
    EqualToAll, changed, grown_tables, is_kept, odd_things, plain_ways, swollen, walk, words_upto,
)

ONE = ("a", ((0,),), (-1,))
ALIKE = ("ab", ((2, 1), (4, 3), (1, 2), (0, 1), (2, 3)), (-1, 0, 1, 0, -1))
TWICE = ("a", ((1,), (2,), (3,), (2,)), (-1, 0, -1, 0))


def plain_holds(table, other, rows):
    if table[0] != other[0] or type(rows) is not tuple or len(rows) != len(table[1]):
        return False
    if not all(type(room) is int and 0 <= room < len(other[1]) for room in rows) or rows[0] != 0:
        return False
    return all(
        table[2][room] == other[2][rows[room]]
        and all(rows[walk(table, room, sign)] == walk(other, rows[room], sign) for sign in table[0])
        for room in range(len(rows)))


class FoldingTest(unittest.TestCase):
    def test_by_hand(self):
        self.assertEqual(folding(ONE), (0,))
        self.assertEqual(folding(ALIKE), (0, 2, 1, 2, 0))
        self.assertEqual(folding(TWICE), (0, 1, 0, 1))
        self.assertEqual(folding(("ab", ((1, 0), (0, 1)), (-1, -1))), (0, 0))
        self.assertEqual(folding(("ba", ((2, 1), (0, 0), (1, 1)), (-1, 4, 2))), (0, 2, 1))

    def test_some_tables(self):
        alike = 0
        for table in grown_tables(300, seed=61):
            least = least_of(table)
            told = folding(table)
            self.assertEqual(told, tuple(walk(least, 0, word) for word in plain_ways(table)), table)
            for word in words_upto(table[0], 4):
                self.assertEqual(told[walk(table, 0, word)], walk(least, 0, word))
            self.assertIs(folding_holds(table, least, told), True)
            alike += len(set(told)) < len(told)
        self.assertGreater(alike, 30)

    def test_a_least_table(self):
        for table in grown_tables(50, seed=62):
            least = least_of(table)
            self.assertEqual(folding(least), tuple(range(len(least[1]))))

    def test_nothing_is_changed(self):
        for table in grown_tables(20, seed=63):
            is_kept(self, folding, table)
            is_kept(self, folding_holds, table, least_of(table), folding(table))
            is_kept(self, folding_holds, table, table, [0, [1]])


class HoldTest(unittest.TestCase):
    def test_onto_itself(self):
        for table in grown_tables(100, seed=64):
            rooms = tuple(range(len(table[1])))
            self.assertIs(folding_holds(table, table, rooms), True)
            if len(rooms) > 1:
                self.assertIs(folding_holds(table, table, rooms[::-1]), False)

    def test_onto_a_table_that_is_not_least(self):
        source = random.Random(65)
        for table in grown_tables(60, seed=65):
            bigger = swollen(source, table, 2)
            rows = tuple(walk(table, 0, word) for word in plain_ways(bigger))
            self.assertIs(folding_holds(bigger, table, rows), True)
            self.assertIs(folding_holds(bigger, least_of(table), folding(bigger)), True)

    def test_another_with_more_rooms(self):
        # Words lead to all rooms of the other, so none may be left over.
        least = least_of(TWICE)
        self.assertEqual(least, ("a", ((1,), (0,)), (-1, 0)))
        for one in range(4):
            for other in range(4):
                self.assertIs(folding_holds(least, TWICE, (one, other)), False)
        source = random.Random(66)
        for table in grown_tables(60, seed=66, tongues=("ab",), most=4):
            bigger = swollen(source, table, 3)
            rows = tuple(walk(bigger, 0, way) for way in plain_ways(table))
            self.assertIs(folding_holds(table, bigger, rows), plain_holds(table, bigger, rows))
            self.assertIs(folding_holds(table, bigger, rows), len(bigger[1]) == len(table[1]))

    def test_another_tongue(self):
        table = ("ab", ((1, 1), (0, 0)), (-1, 0))
        self.assertIs(folding_holds(table, ("ab", ((1, 1), (0, 0)), (-1, 0)), (0, 1)), True)
        self.assertIs(folding_holds(table, ("ba", ((1, 1), (0, 0)), (-1, 0)), (0, 1)), False)
        self.assertIs(folding_holds(table, ("ac", ((1, 1), (0, 0)), (-1, 0)), (0, 1)), False)
        self.assertIs(folding_holds(table, ("a", ((1,), (0,)), (-1, 0)), (0, 1)), False)
        self.assertIs(folding_holds(("a", ((1,), (0,)), (-1, 0)), table, (0, 1)), False)

    def test_other_kinds_and_goes(self):
        self.assertIs(folding_holds(TWICE, TWICE, (0, 1, 2, 3)), True)
        self.assertIs(folding_holds(TWICE, ("a", TWICE[1], (-1, 0, -1, 1)), (0, 1, 2, 3)), False)
        self.assertIs(folding_holds(TWICE, ("a", TWICE[1], (-1, 0, 0, 0)), (0, 1, 2, 3)), False)
        self.assertIs(folding_holds(TWICE, ("a", ((1,), (2,), (3,), (1,)), TWICE[2]), (0, 1, 2, 3)), False)
        self.assertIs(folding_holds(TWICE, ("a", ((1,), (1,)), (-1, 0)), (0, 1, 0, 1)), False)

    def test_room_0_folds_onto_room_0(self):
        # Onto room 1 all else would fit.
        table = ("a", ((1,), (1,)), (-1, -1))
        self.assertIs(folding_holds(table, table, (1, 1)), False)
        self.assertIs(folding_holds(table, table, (0, 1)), True)
        self.assertIs(folding_holds(("a", ((0,),), (-1,)), table, (1,)), False)

    def test_changed_rows(self):
        # Words lead to each room, so there is never a second one that holds.
        for table in grown_tables(60, seed=67) + [ALIKE, TWICE, ONE]:
            for other in [least_of(table), table]:
                told = folding(table) if other != table else tuple(range(len(table[1])))
                for rows in changed(told):
                    self.assertIs(plain_holds(table, other, rows), False)
                    self.assertIs(folding_holds(table, other, rows), False, repr(rows)[:200])

    def test_odd_things(self):
        least = least_of(TWICE)
        for thing in odd_things():
            self.assertIs(folding_holds(TWICE, least, thing), False)
            self.assertIs(folding_holds(TWICE, least, (thing, 1, 0, 1)), repr(thing) == "0")
            self.assertIs(folding_holds(TWICE, least, (0, 1, 0, thing)), repr(thing) == "1")
        for rows in [[0, 1, 0, 1], (0, 1, 0), (0, 1, 0, 1, 0), (False, 1, 0, 1), (0, True, 0, 1), (0, 1, 0, 2),
                     (0, 1, 0, -1), (0, -1, 0, -1), (0, "1", 0, 1), (0, (1,), 0, 1), (0, EqualToAll(), 0, 1)]:
            self.assertIs(folding_holds(TWICE, least, rows), False, rows)
