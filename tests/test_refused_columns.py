"""[1], [11], [12], [15] and the interface: what bonds, keys and parts refuse, with NoBonds and with NoColumns."""

import copy
import unittest

from askbook.bonds import follows, span
from askbook.errors import AskError, NoBonds, NoColumns
from askbook.keys import keys, lean_bonds
from askbook.parts import cut, settled, sound

# Each with bonds and many, all else in order.
BY_BONDS = {
    "span": lambda bonds, many: span(bonds, many, (0,)),
    "follows": lambda bonds, many: follows(bonds, many, ((), (0,))),
    "keys": lambda bonds, many: keys(bonds, many, (0,)),
    "lean_bonds": lean_bonds,
    "sound": lambda bonds, many: sound(bonds, many, [(0, 1, 2)]),
    "settled": lambda bonds, many: settled(bonds, many, (0,)),
    "cut": cut,
}
# Each with the last argument as well, where that is one side's or one part's columns.
BY_COLUMNS = {
    "span": span,
    "keys": keys,
    "settled": settled,
    "follows, left": lambda bonds, many, columns: follows(bonds, many, (columns, (0,))),
    "follows, right": lambda bonds, many, columns: follows(bonds, many, ((0,), columns)),
    "follows, both": lambda bonds, many, columns: follows(bonds, many, (columns, columns)),
    "sound, alone": lambda bonds, many, columns: sound(bonds, many, [columns]),
    "sound, last": lambda bonds, many, columns: sound(bonds, many, [(0, 1, 2), columns]),
    "sound, first": lambda bonds, many, columns: sound(bonds, many, [columns, (0, 1, 2)]),
}


def nested(depth):
    thing = ()
    for turn in range(depth):
        thing = (thing, 0)
    return thing


ANYTHING = [
    None, True, False, -1, 7, 10 ** 5000, 1.5, 1j, "", "0", "bonds", b"0", {}, {0: 1}, {0}, frozenset([0]), range(2),
    object(), list, len, nested(2), nested(5000), ((),), [[]], [None], [()], ["ab"], [True], Ellipsis, ValueError("x"),
]
# Of three columns.
NO_COLUMNS = ANYTHING + [
    [], [0], [0, 1], (1, 0), (2, 1, 0), (0, 0), (1, 1), (0, 1, 1), (0, 2, 1), (-1,), (-1, 0), (3,), (0, 3),
    (0, 1, 2, 3), (10 ** 30,), (-10 ** 30, 0), (True,), (False,), (0, True), (False, 1), ("0",), ("a",), (0, "1"),
    (None,), (0, None), (1.0,), ((0,),), ([0],), ({},), ((),), (0, ()), (object(),), "01", {0: 0, 1: 1},
]
NO_MANY = [
    0, 7, 8, -1, -3, 10 ** 30, True, False, None, 1.0, 3.0, "3", "", b"3", [], [3], (), (3,), {}, {3: 3}, object(), int,
]
NO_LISTS = [
    None, True, 0, 1, "", "bonds", b"", 1.5, (), (((0,), (1,)),), ((0,), (1,)), {}, {((0,), (1,)): True}, object(),
    range(0), list, {((0,), (1,))}, nested(3), nested(5000),
]
NO_BOND = ANYTHING + [
    [(0,), (1,)], (), ((0,),), ((0,), (1,), (2,)), ((0,), (1,), ()), (0, 1), ((0,), None), (None, (1,)), [], "ab",
    ((), (), ()),
]


class RefusedTest(unittest.TestCase):
    def refused(self, error, ask, *handed):
        with self.assertRaises(error) as taken:
            ask(*handed)
        self.assertIs(type(taken.exception), error)
        self.assertIsInstance(taken.exception, AskError)
        self.assertIsInstance(taken.exception, ValueError)

    def no_bonds(self, bonds, many=3):
        for name, ask in BY_BONDS.items():
            with self.subTest(name=name):
                self.refused(NoBonds, ask, bonds, many)

    def test_bonds_that_are_no_list(self):
        for bonds in NO_LISTS:
            self.no_bonds(bonds)

    def test_ten_bonds_are_let_by_and_eleven_are_not(self):
        for bond in [((0,), (1,)), ((), ()), ((0, 1, 2), (0, 1, 2))]:
            for name, ask in BY_BONDS.items():
                ask([bond] * 10, 3)
            self.no_bonds([bond] * 11)
            self.no_bonds([bond] * 1000)

    def test_what_is_no_bond(self):
        for bond in NO_BOND:
            self.no_bonds([bond])
            self.no_bonds([((0,), (1,)), bond])
            self.no_bonds([bond, ((0,), (1,))])

    def test_a_side_that_is_none(self):
        for side in NO_COLUMNS:
            self.no_bonds([(side, (0,))])
            self.no_bonds([((0,), side)])
            self.no_bonds([((0,), (1,)), ((), side)])

    def test_a_column_as_great_as_many(self):
        for many in range(1, 7):
            for column in (many, many + 1, -1):
                for ask in (lean_bonds, cut):
                    self.refused(NoBonds, ask, [((column,), ())], many)
                    self.refused(NoBonds, ask, [((), (column,))], many)
            for ask in (lean_bonds, cut):
                ask([((many - 1,), (0,)), ((), (many - 1,))], many)

    def test_many(self):
        for many in NO_MANY:
            self.no_bonds([], many)
            self.no_bonds([((), ())], many)
            self.no_bonds([((0,), (1,))], many)
            self.no_bonds(None, many)

    def test_one_to_six_columns_are_let_by(self):
        for many in range(1, 7):
            everything = tuple(range(many))
            bonds = [(everything, everything), ((), ())]
            self.assertEqual(span(bonds, many, everything), everything)
            self.assertEqual(follows(bonds, many, (everything, everything))[0], "steps")
            self.assertEqual(keys(bonds, many, everything), [everything])
            self.assertEqual(lean_bonds(bonds, many), [])
            self.assertEqual(sound(bonds, many, [everything]), ("sound", None))
            self.assertIs(settled(bonds, many, everything), True)
            self.assertEqual(cut(bonds, many), [everything])

    def test_columns_that_are_none(self):
        for name, ask in BY_COLUMNS.items():
            for columns in NO_COLUMNS:
                with self.subTest(name=name):
                    self.refused(NoColumns, ask, [((0,), (1,))], 3, columns)
                    self.refused(NoColumns, ask, [], 3, columns)

    def test_a_bond_that_is_none(self):
        for bond in NO_BOND:
            self.refused(NoColumns, follows, [], 3, bond)
            self.refused(NoColumns, follows, [((0,), (1,))], 3, bond)

    def test_parts_that_are_no_list(self):
        for parts in NO_LISTS + [((0, 1, 2),), (0, 1, 2), {(0, 1, 2): True}]:
            self.refused(NoColumns, sound, [], 3, parts)

    def test_parts_that_lack_a_column(self):
        for parts in [[], [()], [(), ()], [(0,)], [(0, 1)], [(0,), (1,)], [(1, 2)], [(0, 2)], [(0, 1), (0, 1), (1,)]]:
            self.refused(NoColumns, sound, [], 3, parts)
            self.refused(NoColumns, sound, [((), (0, 1, 2))], 3, parts)
        self.refused(NoColumns, sound, [], 1, [()])
        self.refused(NoColumns, sound, [], 6, [(0, 1, 2, 3, 4)])

    def test_bonds_are_refused_ahead_of_columns(self):
        for name, ask in BY_COLUMNS.items():
            for columns in [None, (1, 0), (3,), [0], (True,), "0"]:
                with self.subTest(name=name):
                    for bonds in [None, (), [None], [((1, 0), ())], [((), (3,))], [((0,), (1,))] * 11]:
                        self.refused(NoBonds, ask, bonds, 3, columns)
                    for many in [0, 7, True, "3", None]:
                        self.refused(NoBonds, ask, [], many, columns)
        for last in [None, [], (), [(0,)], ((0,),), {}]:
            self.refused(NoBonds, sound, None, 3, last)
            self.refused(NoBonds, sound, [], 0, last)
            self.refused(NoBonds, follows, None, 3, last)
            self.refused(NoBonds, follows, [], 7, last)

    def test_what_is_refused_stays_as_it_was(self):
        bonds, parts = [((0,), (1,)), ((1, 0), (2,))], [(0, 1), (2, 1)]
        before = copy.deepcopy((bonds, parts))
        self.no_bonds(bonds)
        self.refused(NoBonds, sound, bonds, 3, parts)
        self.refused(NoColumns, sound, bonds[:1], 3, parts)
        self.assertEqual((bonds, parts), before)


if __name__ == "__main__":
    unittest.main()
