"""[1], [11], [12] and the interface of askbook/bonds.py; what they refuse is in test_refused_columns.py."""

import copy
import itertools
import random
import unittest

from askbook.bonds import follows, keeps, span

LONG = 10 ** 19 + 7  # a number of twenty figures
LONGER = 10 ** 5000  # more figures than Python writes out as a text

CASES = [
    ([], 1),
    ([], 4),
    ([((), ())], 2),
    ([((), (0,))], 1),
    ([((), (1,))], 3),
    ([((), (0, 1, 2))], 3),
    ([((0,), (1,)), ((1,), (2,)), ((2,), (3,))], 4),
    ([((2,), (3,)), ((1,), (2,)), ((0,), (1,))], 4),
    ([((0,), (1,)), ((1,), (0,))], 2),
    ([((0,), (1,)), ((1,), (2,)), ((2,), (0,))], 3),
    ([((0, 1), (2,)), ((2,), (0,))], 3),
    ([((0, 1), (2,)), ((), (1,))], 4),
    ([((0,), (1, 2)), ((1, 2), (3,)), ((3,), (4, 5))], 6),
    ([((0,), (1, 2)), ((1, 3), (4,)), ((4, 5), (0,)), ((2,), (3,))], 6),
    ([((0,), (0,)), ((0, 1), (1,)), ((1,), ())], 2),
    ([((0, 1), (0, 1, 2)), ((0, 1), (0, 1, 2))], 3),
    ([((), (5,)), ((5,), (4,)), ((4, 5), (3,)), ((0, 3), (1,))], 6),
    ([((place % 6,), ((place + 1) % 6,)) for place in range(10)], 6),
    ([((0, 1, 2, 3, 4), (5,)), ((1, 2, 3, 4, 5), (0,))], 6),
]


def all_parts(columns):
    for many in range(len(columns) + 1):
        yield from itertools.combinations(columns, many)


def all_bonds(many):
    return list(itertools.product(all_parts(range(many)), repeat=2))


def stock_of_bonds(seed, lists):
    chance = random.Random(seed)
    for number in range(lists):
        many = number % 6 + 1
        parts = list(all_parts(range(many)))
        lesser = [part for part in parts if len(part) <= 2]
        yield ([(chance.choice(lesser), chance.choice(parts)) for place in range(chance.randrange(11))], many)


def keeps_by_words(table, bond):
    left, right = bond
    for one, other in itertools.product(table, repeat=2):
        if all(one[column] == other[column] for column in left):
            if not all(one[column] == other[column] for column in right):
                return False
    return True


def pairs_of_rows(bonds, many):
    """All that two rows that keep the bonds can be alike in: nothing else counts for a bond."""
    for alike in all_parts(range(many)):
        if all(not set(left) <= set(alike) or set(right) <= set(alike) for left, right in bonds):
            yield set(alike)


def span_by_words(bonds, many, columns):
    spanned = set(range(many))
    for alike in pairs_of_rows(bonds, many):
        if set(columns) <= alike:
            spanned &= alike
    return tuple(sorted(spanned))


class KeepsTest(unittest.TestCase):
    def kept(self, table, bond):
        self.assertIs(keeps(table, bond), True)

    def not_kept(self, table, bond):
        self.assertIs(keeps(table, bond), False)

    def test_a_table_without_rows_and_with_one_keeps_every_bond(self):
        for bond in all_bonds(3):
            self.kept([], bond)
            self.kept([(1, 2, 3)], bond)
            self.kept([(0, 0, 0)], bond)

    def test_a_row_twice(self):
        for bond in all_bonds(3):
            self.kept([(1, 2, 3), (1, 2, 3)], bond)
        self.kept([(1, 2), (3, 4), (1, 2)], ((0,), (1,)))
        self.not_kept([(1, 2), (1, 4), (1, 2)], ((0,), (1,)))

    def test_ordinary_bonds(self):
        table = [(1, 10, 5), (2, 20, 5), (3, 10, 5), (1, 10, 6)]
        self.kept(table, ((0,), (1,)))
        self.not_kept(table, ((0,), (2,)))
        self.not_kept(table, ((1,), (0,)))
        self.not_kept(table, ((0,), (1, 2)))
        self.not_kept(table, ((0, 1), (2,)))
        self.kept(table, ((0, 2), (1,)))
        self.not_kept(table, ((1, 2), (0,)))
        self.kept(table, ((0,), (0, 1)))

    def test_rows_that_lie_apart(self):
        self.not_kept([(1, 1), (2, 1), (3, 1), (1, 2)], ((0,), (1,)))
        self.not_kept([(1, 1), (2, 1), (2, 2), (3, 1)], ((0,), (1,)))

    def test_an_empty_left(self):
        table = [(1, 2, 3), (1, 4, 3), (1, 2, 3)]
        self.kept(table, ((), (0,)))
        self.kept(table, ((), (0, 2)))
        self.not_kept(table, ((), (1,)))
        self.not_kept(table, ((), (0, 1, 2)))

    def test_an_empty_right(self):
        table = [(1, 2), (1, 3), (2, 2)]
        for left in [(), (0,), (1,), (0, 1)]:
            self.kept(table, (left, ()))

    def test_a_right_that_lies_in_the_left(self):
        table = [(1, 2), (1, 3), (2, 2)]
        for left, right in [((0,), (0,)), ((0, 1), (1,)), ((0, 1), (0, 1))]:
            self.kept(table, (left, right))

    def test_numbers_of_any_size(self):
        self.kept([(-1, LONG), (-1, LONG), (-2, -LONG)], ((0,), (1,)))
        self.not_kept([(-1, LONG), (-1, -LONG)], ((0,), (1,)))
        self.not_kept([(LONG, 1), (LONG, -1)], ((0,), (1,)))
        self.kept([(LONG, 1), (LONG + 1, 2), (-LONG, 3)], ((0,), (1,)))
        self.kept([(LONGER, 1), (-LONGER, 2)], ((0,), (1,)))
        # Numbers that Python keeps at one place of a dict are unlike all the same.
        self.kept([(-1, 0), (-2, 1), (0, 2), (2 ** 61 - 1, 3)], ((0,), (1,)))
        self.not_kept([(0, -1), (0, -2)], ((0,), (1,)))
        self.not_kept([(0, 0), (0, 2 ** 61 - 1)], ((0,), (1,)))

    def test_six_columns(self):
        table = [(1, 2, 3, 4, 5, 6), (1, 2, 3, 4, 5, 7), (0, 2, 3, 4, 5, 6)]
        self.kept(table, ((), (1, 2, 3, 4)))
        self.not_kept(table, ((0, 1, 2, 3, 4), (5,)))
        self.not_kept(table, ((1, 2, 3, 4, 5), (0,)))
        self.kept(table, ((0, 5), (0, 1, 2, 3, 4, 5)))

    def test_as_the_words_say(self):
        rows = list(itertools.product((-1, 0, 3), (0, 7), (5,)))
        for many in (2, 3):
            for table in itertools.product(rows, repeat=many):
                for bond in [((0,), (1,)), ((1,), (0,)), ((), (0,)), ((), (1,)), ((0, 1), (2,)), ((2,), (0, 1))]:
                    self.assertIs(keeps(list(table), bond), keeps_by_words(table, bond), (table, bond))

    def test_what_is_handed_in_stays_as_it_was(self):
        table, bond = [(2, 1), (1, 1), (2, 0)], ((0,), (1,))
        for turn in range(2):
            self.assertIs(keeps(table, bond), False)
            self.assertEqual((table, bond), ([(2, 1), (1, 1), (2, 0)], ((0,), (1,))))


class SpanTest(unittest.TestCase):
    def test_no_bonds(self):
        for many in range(1, 7):
            for columns in all_parts(range(many)):
                self.assertEqual(span([], many, columns), columns)

    def test_an_empty_left(self):
        self.assertEqual(span([((), (1,))], 3, ()), (1,))
        self.assertEqual(span([((), (1,))], 3, (2,)), (1, 2))
        self.assertEqual(span([((), (1,)), ((1,), (0,))], 3, ()), (0, 1))
        self.assertEqual(span([((), (0, 1, 2))], 3, ()), (0, 1, 2))
        self.assertEqual(span([((), ())], 3, ()), ())

    def test_bonds_that_use_what_others_give_in_whatever_order(self):
        bonds = [((0,), (1,)), ((1,), (2,)), ((2, 3), (4,)), ((4,), (5,))]
        for order in itertools.permutations(bonds):
            self.assertEqual(span(list(order), 6, (0,)), (0, 1, 2))
            self.assertEqual(span(list(order), 6, (0, 3)), (0, 1, 2, 3, 4, 5))
            self.assertEqual(span(list(order), 6, (3,)), (3,))
            self.assertEqual(span(list(order), 6, (2, 3)), (2, 3, 4, 5))

    def test_a_left_that_is_there_only_in_part(self):
        self.assertEqual(span([((0, 1), (2,))], 3, (0,)), (0,))
        self.assertEqual(span([((0, 1), (2,))], 3, (1,)), (1,))
        self.assertEqual(span([((0, 1), (2,))], 3, (0, 1)), (0, 1, 2))

    def test_a_right_of_several_columns(self):
        self.assertEqual(span([((4,), (0, 2, 5))], 6, (4,)), (0, 2, 4, 5))
        self.assertEqual(span([((4,), (0, 4)), ((0, 4), (5,))], 6, (4,)), (0, 4, 5))

    def test_columns_of_none_and_of_all(self):
        for bonds, many in CASES:
            self.assertEqual(span(bonds, many, tuple(range(many))), tuple(range(many)))
        self.assertEqual(span([((0,), (1,))], 2, ()), ())

    def test_the_told_tuple_is_rising_and_has_the_columns(self):
        for bonds, many in CASES:
            for columns in all_parts(range(many)):
                told = span(bonds, many, columns)
                self.assertIs(type(told), tuple)
                self.assertEqual(list(told), sorted(set(told)))
                self.assertLessEqual(set(columns), set(told))
                self.assertLessEqual(set(told), set(range(many)))

    def test_every_small_table_that_keeps_the_bonds(self):
        rows = list(itertools.product((0, 1), repeat=3))
        tables = [table for many in range(4) for table in itertools.combinations(rows, many)]
        for bonds, many in CASES:
            if many == 3:
                keeping = [table for table in tables if all(keeps_by_words(table, bond) for bond in bonds)]
                for columns in all_parts(range(many)):
                    told = span(bonds, many, columns)
                    for table in keeping:
                        self.assertTrue(keeps_by_words(table, (columns, told)), (bonds, columns, table))
                    for column in set(range(many)) - set(told):
                        self.assertFalse(all(keeps_by_words(table, (columns, (column,))) for table in keeping))

    def test_as_the_words_say(self):
        for bonds, many in CASES + list(stock_of_bonds(3, 150)):
            for columns in all_parts(range(many)):
                self.assertEqual(span(bonds, many, columns), span_by_words(bonds, many, columns), (bonds, columns))

    def test_what_is_handed_in_stays_as_it_was(self):
        for bonds, many in CASES:
            before = copy.deepcopy(bonds)
            first = span(bonds, many, (0,))
            self.assertEqual(bonds, before)
            self.assertEqual(span(copy.deepcopy(bonds), many, (0,)), first)


class FollowsTest(unittest.TestCase):
    def walk_steps(self, bonds, bond, places):
        self.assertIs(type(places), list)
        self.assertEqual(len(set(places)), len(places))
        reached = set(bond[0])
        for place in places:
            self.assertIs(type(place), int)
            self.assertTrue(0 <= place < len(bonds))
            self.assertLessEqual(set(bonds[place][0]), reached)
            reached |= set(bonds[place][1])
        self.assertLessEqual(set(bond[1]), reached)

    def walk_rows(self, bonds, many, bond, rows):
        self.assertIs(type(rows), list)
        self.assertEqual(len(rows), 2)
        for row in rows:
            self.assertIs(type(row), tuple)
            self.assertEqual([type(number) for number in row], [int] * many)
        for kept in bonds:
            self.assertTrue(keeps_by_words(rows, kept))
        self.assertFalse(keeps_by_words(rows, bond))

    def walk(self, bonds, many, bond):
        told = follows(bonds, many, bond)
        self.assertIs(type(told), tuple)
        self.assertEqual(len(told), 2)
        self.assertIn(told[0], ("steps", "rows"))
        if told[0] == "steps":
            self.walk_steps(bonds, bond, told[1])
        else:
            self.walk_rows(bonds, many, bond, told[1])
        return told

    def by_steps(self, bonds, many, bond):
        self.assertEqual(self.walk(bonds, many, bond)[0], "steps", (bonds, bond))

    def by_rows(self, bonds, many, bond):
        self.assertEqual(self.walk(bonds, many, bond)[0], "rows", (bonds, bond))

    def test_a_bond_that_stands_among_the_bonds(self):
        for bonds, many in CASES:
            for bond in bonds:
                self.by_steps(bonds, many, bond)
        self.by_steps([((1,), (2,)), ((0,), (1,))], 3, ((0,), (1,)))

    def test_a_right_that_lies_in_the_left(self):
        for bonds, many in CASES:
            everything = tuple(range(many))
            self.by_steps(bonds, many, ((0,), (0,)))
            self.by_steps(bonds, many, (everything, everything))
            self.by_steps(bonds, many, (everything, (many - 1,)))

    def test_an_empty_right(self):
        for bonds, many in CASES + [([], 6)]:
            for left in all_parts(range(many)):
                self.by_steps(bonds, many, (left, ()))
        self.assertEqual(follows([], 1, ((), ())), ("steps", []))

    def test_an_empty_left(self):
        self.by_rows([], 2, ((), (0,)))
        self.by_rows([((0,), (1,))], 2, ((), (1,)))
        self.by_steps([((), (1,))], 2, ((), (1,)))
        self.by_steps([((1,), (0,)), ((), (1,))], 2, ((), (0, 1)))
        self.by_rows([((), (1,))], 2, ((), (0, 1)))
        self.by_steps([((), (1,))], 2, ((0,), (1,)))

    def test_no_bonds(self):
        for left, right in all_bonds(3):
            told = self.walk([], 3, (left, right))
            self.assertEqual(told[0] == "steps", set(right) <= set(left))

    def test_through_several_bonds_in_whatever_order(self):
        bonds = [((0,), (1,)), ((1,), (2, 3)), ((2,), (4,)), ((3, 4), (5,))]
        for order in itertools.permutations(range(4)):
            told = self.walk([bonds[place] for place in order], 6, ((0,), (5,)))
            self.assertEqual(told, ("steps", [order.index(place) for place in range(4)]))
            self.by_rows([bonds[place] for place in order], 6, ((1,), (0, 5)))

    def test_more_bonds_than_are_needed(self):
        bonds = [((), (5,)), ((0,), (4,)), ((0,), (1,)), ((4,), (0,)), ((1,), (2,)), ((2,), (1,)), ((3,), (2,))]
        for order in itertools.permutations(bonds, 5):
            reaching = ((0,), (1,)) in order and ((1,), (2,)) in order
            self.assertEqual(self.walk(list(order), 6, ((0,), (2,)))[0] == "steps", reaching)

    def test_a_bond_twice(self):
        self.by_steps([((0,), (1,)), ((0,), (1,)), ((1,), (2,)), ((1,), (2,))], 3, ((0,), (2,)))

    def test_a_right_that_is_reached_only_in_part(self):
        self.by_rows([((0,), (1,))], 3, ((0,), (1, 2)))
        self.by_rows([((0,), (1,))], 3, ((0,), (0, 2)))

    def test_every_bond_of_two_columns_by_every_two(self):
        bonds = all_bonds(2)
        for two in itertools.product(bonds, repeat=2):
            for bond in bonds:
                told = self.walk(list(two), 2, bond)
                self.assertEqual(told[0] == "steps", set(bond[1]) <= set(span_by_words(two, 2, bond[0])))

    def test_as_the_words_say(self):
        for bonds, many in CASES + list(stock_of_bonds(5, 150)):
            for left in all_parts(range(many)):
                spanned = set(span_by_words(bonds, many, left))
                for right in [(0,), (many - 1,), tuple(range(many)), tuple(sorted(spanned)), tuple(range(0, many, 2))]:
                    told = self.walk(bonds, many, (left, right))
                    self.assertEqual(told[0] == "steps", set(right) <= spanned, (bonds, left, right))

    def test_what_is_handed_in_stays_and_lists_are_new(self):
        bonds = [((0,), (1,)), ((1,), (2,))]
        for bond in [((0,), (2,)), ((2,), (0,)), ((0,), ())]:
            first = follows(bonds, 3, bond)
            second = follows(copy.deepcopy(bonds), 3, copy.deepcopy(bond))
            self.assertEqual(first, second)
            self.assertIsNot(first[1], second[1])
            first[1].append(None)
            self.assertEqual(follows(bonds, 3, bond), second)
            self.assertEqual(bonds, [((0,), (1,)), ((1,), (2,))])


if __name__ == "__main__":
    unittest.main()
