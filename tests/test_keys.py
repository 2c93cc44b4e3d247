"""[1], [13], [14] and the interface of askbook/keys.py; what they refuse is in test_refused_columns.py."""

import copy
import itertools
import random
import unittest

from askbook.bonds import span
from askbook.keys import keys, lean_bonds

RING = [((0,), (1,)), ((1,), (2,)), ((2,), (0,))]
CASES = [
    ([], 1),
    ([], 4),
    ([((), ())], 2),
    ([((), (0,))], 1),
    ([((), (1,))], 3),
    ([((), (0, 1, 2))], 3),
    (RING, 3),
    ([((0,), (1,)), ((1,), (2,)), ((2,), (3,))], 4),
    ([((0, 1), (2,)), ((2,), (0,))], 3),
    ([((0, 1), (2, 3)), ((2,), (0,)), ((3,), (1,))], 4),
    ([((0,), (1, 2)), ((1, 2), (3,)), ((3,), (4, 5)), ((4, 5), (0,))], 6),
    ([((0, 1, 2), (3, 4, 5)), ((3,), (0,)), ((4,), (1,)), ((5,), (2,))], 6),
    ([((0, 1), (0, 1, 2)), ((0, 1), (0, 1, 2)), ((0,), (1,))], 3),
    ([((), (5,)), ((5,), (4,)), ((4, 5), (3,)), ((0, 3), (1,))], 6),
    ([((place % 6,), ((place + 1) % 6,)) for place in range(10)], 6),
    ([((0, 1, 2, 3, 4), (5,)), ((1, 2, 3, 4, 5), (0,))], 6),
]


def all_parts(columns):
    for many in range(len(columns) + 1):
        yield from itertools.combinations(columns, many)


def stock_of_bonds(seed, lists):
    chance = random.Random(seed)
    for number in range(lists):
        many = number % 6 + 1
        parts = list(all_parts(range(many)))
        lesser = [part for part in parts if len(part) <= 3]
        yield ([(chance.choice(lesser), chance.choice(parts)) for place in range(chance.randrange(11))], many)


def hangs(bonds, left, right):
    """Whether no two rows that keep the bonds are alike in the left and not in the right."""
    columns = sorted({column for bond in bonds + [(left, right)] for side in bond for column in side})
    for alike in map(set, all_parts(columns)):
        if set(left) <= alike and not set(right) <= alike:
            if all(not set(bond[0]) <= alike or set(bond[1]) <= alike for bond in bonds):
                return False
    return True


def keys_by_words(bonds, columns):
    on = [part for part in all_parts(columns) if hangs(bonds, part, columns)]
    return sorted([part for part in on if not any(set(lesser) < set(part) for lesser in on)])


def lean_by_words(bonds):
    lean = [(left, (column,)) for left, right in bonds for column in right if column not in left]
    for place, (left, right) in enumerate(list(lean)):
        for column in left:
            without = tuple([other for other in lean[place][0] if other != column])
            if hangs(lean, without, right):
                lean[place] = (without, right)
    gone = []
    for place, (left, right) in enumerate(lean):
        others = [bond for at, bond in enumerate(lean) if at != place and at not in gone]
        if hangs(others, left, right):
            gone.append(place)
    return [bond for at, bond in enumerate(lean) if at not in gone]


class KeysTest(unittest.TestCase):
    def test_no_bonds(self):
        for many in range(1, 7):
            for columns in all_parts(range(many)):
                self.assertEqual(keys([], many, columns), [columns])

    def test_keys_of_all_columns(self):
        self.assertEqual(keys([((0,), (1, 2))], 3, (0, 1, 2)), [(0,)])
        self.assertEqual(keys([((2,), (0,))], 3, (0, 1, 2)), [(1, 2)])
        self.assertEqual(keys(RING, 3, (0, 1, 2)), [(0,), (1,), (2,)])
        self.assertEqual(keys(RING, 4, (0, 1, 2, 3)), [(0, 3), (1, 3), (2, 3)])

    def test_keys_of_some_columns(self):
        self.assertEqual(keys(RING, 3, (0, 2)), [(0,), (2,)])
        self.assertEqual(keys([((0,), (1,))], 3, (1, 2)), [(1, 2)])
        self.assertEqual(keys([((0,), (1,))], 3, (0, 1)), [(0,)])

    def test_nothing_is_a_key_but_the_empty_tuple(self):
        self.assertEqual(keys([((), (0, 1))], 2, (0, 1)), [()])
        self.assertEqual(keys([((), (0,)), ((0,), (1,)), ((1,), (0,))], 3, (0, 1)), [()])
        self.assertEqual(keys([((), (0,)), ((0,), (1,))], 3, (1,)), [()])
        self.assertEqual(keys([((), (0,))], 2, (0, 1)), [(1,)])

    def test_keys_of_no_columns_at_all(self):
        for bonds, many in CASES:
            self.assertEqual(keys(bonds, many, ()), [()])

    def test_keys_of_unlike_lengths(self):
        bonds = [((0, 1), (2, 3)), ((3,), (0, 1, 2))]
        self.assertEqual(keys(bonds, 4, (0, 1, 2, 3)), [(0, 1), (3,)])
        bonds = [((0,), (1, 2, 3, 4, 5)), ((1, 2), (0,)), ((3, 4, 5), (1, 2))]
        self.assertEqual(keys(bonds, 6, (0, 1, 2, 3, 4, 5)), [(0,), (1, 2), (3, 4, 5)])

    def test_they_rise_as_tuples_not_by_length(self):
        bonds = [((5,), (0, 1, 2, 3, 4)), ((0, 1), (5,)), ((0, 2, 3), (5,)), ((4,), (5,))]
        self.assertEqual(keys(bonds, 6, (0, 1, 2, 3, 4, 5)), [(0, 1), (0, 2, 3), (4,), (5,)])

    def test_columns_may_hang_on_a_key_by_way_of_others(self):
        bonds = [((0,), (1,)), ((1,), (2,)), ((2,), (1,))]
        self.assertEqual(keys(bonds, 3, (0, 2)), [(0,)])
        self.assertEqual(keys([((0,), (5,)), ((5,), (3,)), ((3,), (4,)), ((4,), (0,))], 6, (0, 3)), [(0,), (3,)])
        # Column 1 alone would do, but it is none of those named.
        self.assertEqual(keys([((1,), (0, 2))], 3, (0, 2)), [(0, 2)])

    def test_as_many_keys_as_can_be(self):
        # On each three of six columns the others hang; ten bonds are enough to tell of ten of them.
        threes = list(itertools.combinations(range(6), 3))[:10]
        everything = (0, 1, 2, 3, 4, 5)
        bonds = [(three, everything) for three in threes]
        self.assertEqual(keys(bonds, 6, everything), keys_by_words(bonds, everything))
        self.assertEqual(keys(bonds, 6, everything)[:10], threes)

    def test_as_the_words_say(self):
        for bonds, many in CASES + list(stock_of_bonds(11, 60)):
            for columns in all_parts(range(many)):
                told = keys(bonds, many, columns)
                self.assertIs(type(told), list)
                self.assertEqual(told, keys_by_words(bonds, columns), (bonds, columns))

    def test_what_is_handed_in_stays_and_lists_are_new(self):
        for bonds, many in CASES:
            before = copy.deepcopy(bonds)
            first = keys(bonds, many, (0,))
            second = keys(copy.deepcopy(bonds), many, (0,))
            self.assertEqual(first, second)
            self.assertIsNot(first, second)
            first.append(None)
            self.assertEqual(keys(bonds, many, (0,)), second)
            self.assertEqual(bonds, before)


class LeanBondsTest(unittest.TestCase):
    def lean(self, bonds, many, told):
        self.assertEqual(lean_bonds(bonds, many), told)
        self.assertEqual(lean_by_words(bonds), told)

    def test_nothing_left(self):
        self.lean([], 1, [])
        self.lean([((), ())], 1, [])
        self.lean([((0,), ()), ((0, 1), ())], 2, [])
        self.lean([((0,), (0,)), ((0, 1), (0, 1)), ((1, 2), (2,))], 3, [])

    def test_a_right_is_parted_in_order(self):
        self.lean([((3,), (0, 1, 2))], 4, [((3,), (0,)), ((3,), (1,)), ((3,), (2,))])
        self.lean([((1,), (2,)), ((0,), (3, 4))], 5, [((1,), (2,)), ((0,), (3,)), ((0,), (4,))])
        self.lean([((), (0, 1))], 2, [((), (0,)), ((), (1,))])

    def test_a_column_that_stands_left_too_is_left_out(self):
        self.lean([((1,), (0, 1, 2))], 3, [((1,), (0,)), ((1,), (2,))])
        self.lean([((0, 1), (1, 2))], 3, [((0, 1), (2,))])

    def test_a_column_of_a_left_that_is_not_needed(self):
        self.lean([((0, 1), (2,)), ((0,), (1,))], 3, [((0,), (2,)), ((0,), (1,))])
        self.lean([((0, 1), (2,)), ((1,), (0,))], 3, [((1,), (2,)), ((1,), (0,))])
        self.lean([((0,), (1,)), ((), (0,))], 2, [((), (1,)), ((), (0,))])
        self.lean([((0, 1, 2), (3,)), ((0,), (1,)), ((1,), (2,))], 4, [((0,), (3,)), ((0,), (1,)), ((1,), (2,))])

    def test_from_the_least_column_on(self):
        # Of 0 and 1 each gives the other: the lesser one goes first, and then the greater is needed.
        self.lean([((0, 1), (2,)), ((0,), (1,)), ((1,), (0,))], 3, [((1,), (2,)), ((0,), (1,)), ((1,), (0,))])
        self.lean([((1, 2, 3), (0,)), ((2,), (3,)), ((3,), (2,))], 4, [((1, 3), (0,)), ((2,), (3,)), ((3,), (2,))])

    def test_by_the_bonds_as_they_then_are(self):
        # The bond itself counts among them: by it and the last one column 1 is not needed.
        self.lean([((0, 1), (2,)), ((0, 2), (1,)), ((0,), (1,))], 3, [((0,), (2,)), ((0,), (1,))])
        # Made leaner, the first and the last are the same, and the first one goes.
        self.lean([((0, 1), (2,)), ((0,), (1,)), ((0, 3), (2,))], 4, [((0,), (1,)), ((0,), (2,))])

    def test_a_bond_that_follows_from_the_others_left(self):
        self.lean([((0,), (2,)), ((0,), (1,)), ((1,), (2,))], 3, [((0,), (1,)), ((1,), (2,))])
        self.lean([((0,), (1,)), ((1,), (2,)), ((0,), (2,))], 3, [((0,), (1,)), ((1,), (2,))])

    def test_from_the_first_bond_on(self):
        # Either of the two that give 2 could go, not both: it is the first one.
        bonds = [((0,), (2,)), ((1,), (2,)), ((0,), (1,)), ((1,), (0,))]
        self.lean(bonds, 3, [((1,), (2,)), ((0,), (1,)), ((1,), (0,))])
        self.lean(bonds[1:2] + bonds[:1] + bonds[2:], 3, [((0,), (2,)), ((0,), (1,)), ((1,), (0,))])

    def test_the_same_bond_twice(self):
        self.lean([((0,), (1,)), ((0,), (1,))], 2, [((0,), (1,))])
        self.lean([((0,), (1,)), ((1,), (0,)), ((0,), (1,))], 2, [((1,), (0,)), ((0,), (1,))])
        self.lean([((0,), (1,))] * 10, 2, [((0,), (1,))])

    def test_more_than_ten_are_told(self):
        bonds = [
            ((2, 3, 5), (4,)), ((3, 4), (0, 2, 5)), ((0, 1, 4), (1,)), ((0, 3, 5), (0, 1, 2)), ((2, 4, 5), (0, 4)),
            ((0, 2, 3), (0, 3, 4)), ((0, 1), (4, 5)), ((1, 2, 3), (2, 5)), ((0, 4, 5), (1, 3, 4)), ((1, 4, 5), (2,)),
        ]
        self.assertEqual(len(lean_bonds(bonds, 6)), 12)
        self.lean(bonds, 6, lean_by_words(bonds))

    def test_more_than_fifty_are_looked_through(self):
        wide = [((column,), (0, 1, 2, 3, 4, 5)) for column in range(6)] + [((), (0, 1, 2, 3, 4, 5))] * 4
        self.lean(wide, 6, lean_by_words(wide))

    def test_spans_are_the_same_before_and_behind(self):
        for bonds, many in CASES + list(stock_of_bonds(13, 90)):
            told = lean_bonds(bonds, many)
            for columns in all_parts(range(many)):
                if len(told) <= 10:
                    self.assertEqual(span(told, many, columns), span(bonds, many, columns), (bonds, columns))
                for column in range(many):
                    self.assertEqual(hangs(told, columns, (column,)), column in span(bonds, many, columns))

    def test_as_the_words_say(self):
        for bonds, many in CASES + list(stock_of_bonds(17, 300)):
            told = lean_bonds(bonds, many)
            self.assertIs(type(told), list)
            self.assertEqual(told, lean_by_words(bonds), bonds)

    def test_every_three_bonds_of_a_stock(self):
        stock = [
            ((0, 1), (2,)), ((0,), (1, 2)), ((1,), (0,)), ((2,), (0, 1)), ((1, 2), (0,)), ((), (2,)), ((0, 2), (1,)),
        ]
        for three in itertools.permutations(stock, 3):
            self.lean(list(three), 3, lean_by_words(list(three)))

    def test_what_is_handed_in_stays_and_lists_are_new(self):
        for bonds, many in CASES:
            before = copy.deepcopy(bonds)
            first = lean_bonds(bonds, many)
            second = lean_bonds(copy.deepcopy(bonds), many)
            self.assertEqual(first, second)
            self.assertIsNot(first, second)
            self.assertIsNot(first, bonds)
            first.append(None)
            self.assertEqual(lean_bonds(bonds, many), second)
            self.assertEqual(bonds, before)

    def test_bonds_that_are_lean_already(self):
        self.lean(RING, 3, RING)
        self.assertIsNot(lean_bonds(RING, 3), RING)


if __name__ == "__main__":
    unittest.main()
