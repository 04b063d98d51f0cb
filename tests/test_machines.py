import unittest

from nearreach.errors import NoModes, TooHeavy, TooMany
from nearreach.machines import looked_machine, machine_of, mode_reaches, moded_reach
from nearreach.making import table_of
from nearreach.reaches import reach
from tests.helpers import (
    THIRTY_TWO, EqualToAll, book, changed, deep, grown_tables, is_kept, many, odd_things, one, plain_is_book,
    plain_is_table, row, small_books, times,
)

A, B, AB = one("a"), one("b"), one("ab")
STAY, SHUT = ("stay",), ("shut",)
HEAVY = row(many(AB), A, times(AB, 4, 4), times(AB, 4, 4))
# Modes too heavy, and with a table of too many rooms.
ELEVEN = (("x", HEAVY, STAY), ("y", A, STAY))
ROOMS = (("x", HEAVY, SHUT),)
FOUR = ("ab", (
    (("x", A, ("open", 1)), ("y", B, STAY)),
    (("x", row(A, many(B)), ("turn", 3)), ("z", B, SHUT)),
    (),
    (("w", many(AB), ("open", 0)), ("x", A, SHUT), ("y", row(), ("turn", 2))),
))
ONE_MODE = ("ab", ((),))
STILL = ("ab", ((((0, 0),), (-1,), ()),))
TWO = ("ab", (
    (((1, 0), (0, 1)), (-1, 1), (STAY, ("open", 1))),
    (((1, 2), (2, 2), (0, 1)), (-1, 0, -1), (SHUT, ("turn", 0), STAY)),
))


def is_deed(thing, modes):
    deeds = [STAY, SHUT] + [(word, mode) for word in ("open", "turn") for mode in range(modes)]
    return repr(thing) in map(repr, deeds)


def plain_is_moded(thing):
    if type(thing) is not tuple or len(thing) != 2 or type(thing[1]) is not tuple or not 1 <= len(thing[1]) <= 4:
        return False
    for mode in thing[1]:
        if type(mode) is not tuple or not all(type(rule) is tuple and len(rule) == 3 for rule in mode):
            return False
        if not plain_is_book((thing[0], tuple(rule[:2] for rule in mode))):
            return False
        if not all(is_deed(rule[2], len(thing[1])) for rule in mode):
            return False
    return True


def plain_is_machine(thing):
    if type(thing) is not tuple or len(thing) != 2 or type(thing[1]) is not tuple or not 1 <= len(thing[1]) <= 4:
        return False
    for mode in thing[1]:
        if type(mode) is not tuple or len(mode) != 3 or not plain_is_table((thing[0], *mode[:2])):
            return False
        if type(mode[2]) is not tuple or not all(is_deed(deed, len(thing[1])) for deed in mode[2]):
            return False
        if not max(mode[1]) < len(mode[2]) <= 6:
            return False
    return True


class LookedTest(unittest.TestCase):
    def test_machines(self):
        six = (STAY,) * 6
        for machine in [
            STILL, TWO, ("ab", STILL[1] * 4), ("ab", ((((0, 0),), (-1,), six),)), ("\n", ((((0,),), (-1,), ()),)),
            ("ab", ((((1, 1), (1, 1)), (-1, 5), six),)), ("ab", ((((1, 1), (1, 1)), (-1, 0), (("open", 0),)),)),
            ("ab", TWO[1] + ((((0, 0),), (-1,), (("turn", 3), ("open", 2), SHUT)),) * 2),
            ("a", ((tuple((min(room + 1, 31),) for room in range(32)), (-1,) * 32, ()),)),
        ]:
            self.assertIs(looked_machine(machine), machine)

    def test_no_machines(self):
        goes, kinds = ((1, 1), (1, 1)), (-1, 2)
        for deeds in [
            (), (STAY,), (STAY, STAY), (STAY,) * 7, [STAY] * 3, (STAY, STAY, None), (STAY, STAY, ("go",)),
            (STAY, STAY, "stay"), (STAY, STAY, ["stay"]), (STAY, STAY, ()), (STAY, STAY, ("open",)),
            (STAY, STAY, ("turn",)), (STAY, STAY, ("stay", 0)), (STAY, STAY, ("shut", 0)), (STAY, STAY, ("open", 1)),
            (STAY, STAY, ("open", -1)), (STAY, STAY, ("turn", 1)), (STAY, STAY, ("open", False)),
            (STAY, STAY, ("open", None)), (STAY, STAY, ("open", 0, 0)), (STAY, STAY, ("open", "0")),
            (STAY, STAY, (b"stay",)), (STAY, STAY, ("Stay",)), (STAY, STAY, EqualToAll()),
            (STAY, STAY, (EqualToAll(),)),
            (STAY, STAY, ("open", EqualToAll())), (STAY, STAY, (EqualToAll(), 0)), None, STAY,
        ]:
            with self.assertRaises(NoModes, msg=repr(deeds)):
                looked_machine(("ab", ((goes, kinds, deeds),)))
        self.assertEqual(looked_machine(("ab", ((goes, kinds, (STAY,) * 3),)))[0], "ab")
        mode = TWO[1][0]
        for thing in [
            ("ab", ()), ("ab", STILL[1] * 5), ("ab", list(TWO[1])), list(TWO), ("ab",), ("ab", STILL[1], ()),
            ("ab", (list(STILL[1][0]),)), ("ab", (STILL[1][0][:2],)), ("ab", ((*STILL[1][0], ()),)), ("ba", None),
            ("a", STILL[1]), ("abc", STILL[1]), ("aa", STILL[1]), ("", STILL[1]), (None, STILL[1]),
            ("ab", ((mode[0], (0, 1), mode[2]),)), ("ab", ((mode[0], (-1, 6), (STAY,) * 6),)), ("ab", (mode, None)),
            ("ab", (mode,)), ("ab", (STILL[1][0], ((((True, 0),), (-1,), ())))),
            ("ab", ((((0, 0), (0, 0)), (-1, -1), ()),)),
            ("ab", ((((True, 0), (0, 1)), (-1, 1), (STAY, STAY)),)), (("ab",), STILL[1]), (EqualToAll(), STILL[1]),
            ("ab", ((((1, 0), (0, 1)), (-1, True), (STAY, STAY)),)), ("ab", STILL[1][0]), ("ab", EqualToAll()), (),
        ]:
            with self.assertRaises(NoModes, msg=repr(thing)):
                looked_machine(thing)

    def test_changed_machines(self):
        good, bad = 0, 0
        for machine in (TWO, STILL):
            for thing in changed(machine):
                # A change of the tongue alone is looked at above.
                if type(thing) is tuple and len(thing) == 2 and thing[0] != "ab":
                    continue
                if plain_is_machine(thing):
                    self.assertIs(looked_machine(thing), thing)
                    good += 1
                else:
                    with self.assertRaises(NoModes, msg=repr(thing)[:200]):
                        looked_machine(thing)
                    bad += 1
        self.assertGreater(good, 20)
        self.assertGreater(bad, 500)

    def test_odd_things(self):
        goes, kinds, deeds = TWO[1][1]
        for thing in odd_things():
            for spoilt in [
                thing, (thing, STILL[1]), ("ab", thing), ("ab", (thing,)), ("ab", (STILL[1][0], thing)),
                ("ab", ((thing, kinds, deeds),)), ("ab", ((goes, thing, deeds),)), ("ab", ((goes, kinds, (thing,)),)),
                ("ab", ((goes, kinds, ((thing,),)),)), ("ab", ((goes, kinds, (("open", thing),)),), thing),
                ("ab", ((goes, kinds, ((thing, 0),)),)), ("ab", ((goes, kinds, thing),)),
            ]:
                with self.assertRaises(NoModes, msg=repr(spoilt)[:200]):
                    looked_machine(spoilt)


class MachineTest(unittest.TestCase):
    def test_by_hand(self):
        self.assertEqual(machine_of(ONE_MODE), STILL)
        self.assertEqual(machine_of(("ab", ((("x", A, SHUT),),))), ("ab",
                                                                    ((((1, 2), (2, 2), (2, 2)), (-1, 0, -1), (SHUT,)),
                                                                     )))
        machine = machine_of(FOUR)
        self.assertIs(looked_machine(machine), machine)
        self.assertEqual([mode[2] for mode in machine[1]], [
            (("open", 1), STAY), (("turn", 3), SHUT), (), (("open", 0), SHUT, ("turn", 2))])

    def test_each_mode_is_its_books_table(self):
        source = small_books(120, seed=241, tongues=("ab",), heaviest=6)
        counts = set()
        for at in range(0, 120, 4):
            books = source[at:at + at // 4 % 4 + 1]
            modes = tuple(tuple((name, shape, [STAY, SHUT, ("open", number), ("turn", number)][place % 4])
                                for place, (name, shape) in enumerate(rules))
                          for number, (tongue, rules) in enumerate(books))
            machine = machine_of(("ab", modes))
            self.assertIs(looked_machine(machine), machine)
            self.assertEqual(machine, ("ab", tuple(
                (*table_of(each)[1:], tuple(rule[2] for rule in mode)) for each, mode in zip(books, modes))))
            counts.add(len(modes))
        self.assertEqual(counts, {1, 2, 3, 4})

    def test_names(self):
        # Twice in one mode is refused, in two modes it is let.
        with self.assertRaises(NoModes):
            machine_of(("ab", ((("x", A, STAY), ("x", B, STAY)),)))
        self.assertEqual(len(machine_of(("ab", ((("x", A, STAY),), (("x", B, STAY),))))[1]), 2)
        for name in ["", "abcdefghi", "X", "x y", None, b"x", ("x",), EqualToAll()]:
            with self.assertRaises(NoModes):
                machine_of(("ab", (((name, A, STAY),),)))

    def test_no_moded_books(self):
        for thing in [
            ("ab", ()), ("ab", ((),) * 5), ("ab", [()]), ["ab", ((),)], ("ab", ([],)), ("ab",), ("ab", ((),), ()), (),
            ("", ((),)), ("aa", ((),)), (None, ((),)), (["ab"], ((),)), ("ab", None), ("ab", (None,)),
            ("ab", ((), None)),
            ("ab", ((("x", one("c"), STAY),),)), ("ab", ((), (("x", one("ac"), STAY),))), ("a", FOUR[1]),
            ("ab", ((("x", A),),)), ("ab", ((("x", A, STAY, STAY),),)), ("ab", ((["x", A, STAY],),)),
            ("ab", ((("x", A, ("open", 1)),),)), ("ab", ((("x", A, ("turn", -1)),),)), ("ab", ((("x", A, "stay"),),)),
            ("ab", ((("x", A, ("open", False)),),)), ("ab", ((("x", A, ["stay"]),),)), ("ab", ((("x", A, ("go",)),),)),
            ("ab", ((("x", ("one", ""), STAY),),)), ("ab", ((("x", list(A), STAY),),)), ("ab", ("xyz",)), ("ab", "x"),
            ("ab", (tuple((name, A, STAY) for name in "abcdefg"),)), book(A), ("ab", (("x", A, STAY),)),
            ("ab", ((("x", deep("a", 25), STAY),),)), (EqualToAll(), ((),)), ("ab", (EqualToAll(),)), TWO,
            ("ab", ((("x", A, ("open", 2)),), ())), ("ab", ((("x", A, ("open", 10 ** 999)),), ())),
        ]:
            with self.assertRaises(NoModes, msg=repr(thing)[:200]):
                machine_of(thing)

    def test_changed_moded_books(self):
        good, bad = 0, 0
        moded = ("ab", ((("x", row(A, B), ("open", 1)), ("y", A, SHUT)), (("x", many(B), STAY),), ()))
        for thing in changed(moded):
            if plain_is_moded(thing):
                self.assertEqual(looked_machine(machine_of(thing))[0], thing[0])
                good += 1
            else:
                with self.assertRaises(NoModes, msg=repr(thing)[:200]):
                    machine_of(thing)
                bad += 1
        self.assertGreater(good, 10)
        self.assertGreater(bad, 500)

    def test_odd_things(self):
        for thing in odd_things():
            for spoilt in [
                thing, (thing, ((),)), ("ab", thing), ("ab", (thing,)) if repr(thing) != "()" else None,
                ("ab", ((thing,),)), ("ab", (((thing, A, STAY),),)), ("ab", ((("x", thing, STAY),),)),
                ("ab", ((("x", A, thing),),)), ("ab", ((("x", A, (thing,)),),)), ("ab", ((("x", A, (thing, 0)),),)),
                ("ab", ((("x", A, ("open", thing)), ("x", A, STAY)),)),
            ]:
                with self.assertRaises(NoModes, msg=repr(spoilt)[:200]):
                    machine_of(spoilt)

    def test_the_order_of_refusals(self):
        with self.assertRaises(TooHeavy):
            machine_of(("ab", (ELEVEN,)))
        with self.assertRaises(TooMany):
            machine_of(("ab", (ROOMS,)))
        for modes in [(ELEVEN, ROOMS), (ROOMS, ELEVEN), (ROOMS, (), ROOMS, ELEVEN), (ELEVEN, ROOMS, (), ())]:
            with self.assertRaises(TooHeavy):
                machine_of(("ab", modes))
        bad = (("x", A, ("open", 4)),)
        for modes in [(bad, ELEVEN, ROOMS), (ELEVEN, ROOMS, bad), (ROOMS, bad), (ROOMS, ELEVEN, None)]:
            with self.assertRaises(NoModes):
                machine_of(("ab", modes))
        for modes in [((), ROOMS), (ROOMS, ()), ((("x", A, STAY),), (), (), ROOMS)]:
            with self.assertRaises(TooMany):
                machine_of(("ab", modes))

    def test_each_mode_weighs_by_itself(self):
        ten = (("x", times(times(A, 3, 3), 3, 3), STAY), ("y", B, STAY))
        self.assertEqual(len(machine_of(("ab", (ten,) * 4))[1]), 4)
        rules = tuple((name, shape, STAY) for name, shape in THIRTY_TWO[1])
        self.assertEqual([len(mode[0]) for mode in machine_of(("ab", (rules,) * 4))[1]], [32] * 4)

    def test_nothing_is_changed(self):
        is_kept(self, machine_of, FOUR)
        is_kept(self, looked_machine, TWO)
        is_kept(self, mode_reaches, TWO)
        is_kept(self, moded_reach, TWO)
        spoilt = ["ab", [[["x", A, STAY]]]]
        with self.assertRaises(NoModes):
            machine_of(spoilt)
        self.assertEqual(spoilt, ["ab", [[["x", A, STAY]]]])


class ReachTest(unittest.TestCase):
    def test_by_hand(self):
        self.assertEqual((mode_reaches(STILL), moded_reach(STILL)), ((0,), 0))
        endless = (("x", A, STAY), ("y", row(many(A), B), STAY))
        three = (("x", A, STAY), ("y", row(A, B, A, B), STAY))
        one_mode = (("x", many(A), SHUT),)
        for modes, reaches, told in [
            ((three,), (3,), 3), ((one_mode, three), (1, 3), 3), ((three, one_mode, ()), (3, 1, 0), 3),
            ((endless,), (None,), None), ((endless, three), (None, 3), None),
            ((three, endless, ()), (3, None, 0), None),
            (((), (), (), ()), (0, 0, 0, 0), 0),
        ]:
            machine = machine_of(("ab", modes))
            self.assertEqual(mode_reaches(machine), reaches)
            self.assertEqual(moded_reach(machine), told)
            self.assertIs(type(mode_reaches(machine)), tuple)

    def test_those_of_the_tables(self):
        tables = [table for table in grown_tables(200, seed=242, tongues=("ab",), kinds=(-1, 0, 0, 1))]
        told = set()
        for at in range(0, 200, 4):
            some = tables[at:at + at // 4 % 4 + 1]
            machine = ("ab", tuple((goes, kinds, (STAY, SHUT)) for tongue, goes, kinds in some))
            reaches = [reach(table) for table in some]
            self.assertEqual(mode_reaches(looked_machine(machine)), tuple(reaches))
            self.assertEqual(moded_reach(machine), None if None in reaches else max(reaches))
            told.add(moded_reach(machine))
        self.assertTrue({0, 1, 2, None} <= told, told)
