"""[1], [15], [16] and the interface of askbook/parts.py; what they refuse is in test_refused_columns.py."""

import copy
import itertools
import random
import unittest

from askbook.parts import cut, put_together, settled, sound

LONG = 10 ** 19 + 7  # a number of twenty figures

CASES = [
    ([], 1),
    ([], 4),
    ([((), ())], 2),
    ([((), (0,))], 1),
    ([((), (1,))], 3),
    ([((), (0, 1, 2))], 3),
    ([((0,), (1,))], 3),
    ([((0,), (1,)), ((1,), (2,))], 3),
    ([((0, 1), (2,)), ((2,), (0,))], 3),
    ([((0,), (1,)), ((1,), (2,)), ((2,), (3,))], 4),
    ([((0,), (1,)), ((2,), (3,))], 4),
    ([((0, 1), (2, 3)), ((2,), (0,)), ((3,), (1,))], 4),
    ([((3,), (2,)), ((2,), (1,)), ((1,), (0,))], 4),
    ([((0,), (1,)), ((2,), (3,)), ((4,), (5,))], 6),
    ([((0,), (1, 2)), ((1, 2), (3,)), ((3,), (4, 5))], 6),
    ([((), (5,)), ((5,), (4,)), ((4, 5), (3,)), ((0, 3), (1,))], 6),
    ([((0, 1, 2, 3, 4), (5,)), ((1, 2, 3, 4, 5), (0,))], 6),
    ([((place % 6,), ((place + 1) % 6,)) for place in range(10)], 6),
]


def all_parts(columns):
    for many in range(len(columns) + 1):
        yield from itertools.combinations(columns, many)


def stock_of_bonds(chance, most):
    many = chance.randrange(1, most + 1)
    parts = list(all_parts(range(many)))
    lesser = [part for part in parts if len(part) <= 2]
    return ([(chance.choice(lesser), chance.choice(parts)) for place in range(chance.randrange(7))], many)


def keeps_by_words(table, bond):
    left, right = bond
    for one, other in itertools.combinations(table, 2):
        if all(one[column] == other[column] for column in left):
            if not all(one[column] == other[column] for column in right):
                return False
    return True


def on_part(row, part):
    return tuple([row[column] for column in part])


def together_by_words(table, parts):
    """[15] as it stands, over all rows of the columns' numbers."""
    having = [({on_part(row, part) for row in table}, part) for part in parts]
    rows = itertools.product(*[sorted(set(numbers)) for numbers in zip(*table)]) if table else []
    return [row for row in rows if all(on_part(row, part) in had for had, part in having)]


def hanging_by_words(bonds, many, columns):
    """What is alike in each two rows that keep the bonds and are alike in the columns."""
    spanned = set(range(many))
    for alike in map(set, all_parts(range(many))):
        if set(columns) <= alike and all(not set(left) <= alike or set(right) <= alike for left, right in bonds):
            spanned &= alike
    return spanned


def numberings(many):
    """All ways in which so many numbers can be alike and unlike."""
    for numbers in itertools.product(range(many), repeat=many):
        if all(number <= max(numbers[:place], default=-1) + 1 for place, number in enumerate(numbers)):
            yield numbers


def sound_by_words(bonds, many, parts):
    """Over all tables of as many rows as there are parts: a row that parts come to needs no more rows than that."""
    for columns in itertools.product(list(numberings(len(parts))), repeat=many):
        table = list(zip(*columns))
        if all(keeps_by_words(table, bond) for bond in bonds):
            if together_by_words(table, parts) != sorted(set(table)):
                return False
    return True


class PutTogetherTest(unittest.TestCase):
    def together(self, table, parts, told):
        self.assertEqual(put_together(table, parts), told)
        self.assertEqual(together_by_words(table, parts), told)

    def test_no_rows(self):
        for parts in [[(0,)], [(0, 1)], [(0,), (1,)], [(), (0,), (1, 2)], [(0, 1, 2, 3, 4, 5)]]:
            self.together([], parts, [])

    def test_one_row(self):
        for parts in [[(0, 1, 2)], [(0,), (1,), (2,)], [(0, 1), (1, 2)], [(), (0, 2), (1,)]]:
            self.together([(3, -1, 3)], parts, [(3, -1, 3)])

    def test_one_part_with_all_columns(self):
        self.together([(2, 1), (1, 2), (2, 1), (-1, 5)], [(0, 1)], [(-1, 5), (1, 2), (2, 1)])
        self.together([(2,), (1,), (2,)], [(0,)], [(1,), (2,)])

    def test_parts_that_lie_apart(self):
        self.together([(1, 2), (3, 4)], [(0,), (1,)], [(1, 2), (1, 4), (3, 2), (3, 4)])
        table = [(1, 2, 3), (4, 5, 6)]
        self.together(table, [(0, 2), (1,)], [(1, 2, 3), (1, 5, 3), (4, 2, 6), (4, 5, 6)])
        self.assertEqual(len(put_together(table, [(0,), (1,), (2,)])), 8)

    def test_parts_that_share_columns(self):
        table = [(1, 0, 1), (2, 0, 2), (3, 9, 3)]
        self.together(table, [(0, 1), (1, 2)], [(1, 0, 1), (1, 0, 2), (2, 0, 1), (2, 0, 2), (3, 9, 3)])
        self.together(table, [(1, 2), (0, 1)], [(1, 0, 1), (1, 0, 2), (2, 0, 1), (2, 0, 2), (3, 9, 3)])
        self.together(table, [(0, 1), (0, 2)], table)

    def test_parts_that_share_columns_all_round(self):
        table = [(0, 0, 1), (0, 1, 0), (1, 0, 0)]
        self.together(table, [(0, 1), (1, 2), (0, 2)], [(0, 0, 0), (0, 0, 1), (0, 1, 0), (1, 0, 0)])

    def test_parts_that_share_several_columns(self):
        table = [(1, 7, 8, 1), (2, 7, 8, 2), (3, 7, 9, 3)]
        told = [(1, 7, 8, 1), (1, 7, 8, 2), (2, 7, 8, 1), (2, 7, 8, 2), (3, 7, 9, 3)]
        self.together(table, [(0, 1, 2), (1, 2, 3)], told)

    def test_an_empty_part_beside_others(self):
        table = [(1, 2), (3, 4)]
        self.together(table, [(), (0, 1)], table)
        self.together(table, [(0, 1), ()], table)
        self.together(table, [(0,), (), (1,), ()], [(1, 2), (1, 4), (3, 2), (3, 4)])

    def test_a_part_within_another_and_a_part_twice(self):
        table = [(1, 2, 3), (4, 2, 6)]
        self.together(table, [(0, 1, 2), (1,), (0, 2)], table)
        self.together(table, [(0, 1), (0, 1), (1, 2), (2,)], [(1, 2, 3), (1, 2, 6), (4, 2, 3), (4, 2, 6)])

    def test_the_rows_rise_as_numbers_each_once(self):
        table = [(100, 1), (-20, 1), (3, 1), (-3, 1), (3, 1)]
        self.together(table, [(0,), (1,)], [(-20, 1), (-3, 1), (3, 1), (100, 1)])
        self.together([(LONG, 0), (-LONG, 0)], [(0, 1)], [(-LONG, 0), (LONG, 0)])
        self.together([(1, LONG), (2, -LONG)], [(0,), (1,)], [(1, -LONG), (1, LONG), (2, -LONG), (2, LONG)])

    def test_parts_in_whatever_order(self):
        table = [(0, 0, 0, 1, 1), (0, 0, 1, 1, 0), (0, 1, 1, 0, 0), (1, 1, 0, 0, 1)]
        parts = [(0, 1), (1, 2), (2, 3), (3, 4)]
        told = together_by_words(table, parts)
        for order in itertools.permutations(parts):
            self.assertEqual(put_together(table, list(order)), told)

    def test_every_table_of_some_rows_and_every_parts_of_a_stock(self):
        rows = [(0, 0, 0), (0, 1, 1), (1, 0, 1), (1, 1, 0), (2, 0, 0)]
        for table in all_parts(rows):
            for some in all_parts([(0,), (1, 2), (0, 1), (0, 2), (2,)]):
                if {column for part in some for column in part} == {0, 1, 2}:
                    told = put_together(list(table), list(some))
                    self.assertIs(type(told), list)
                    self.assertEqual(told, together_by_words(list(table), some), (table, some))

    def test_as_the_words_say(self):
        chance = random.Random(19)
        for turn in range(150):
            many = chance.randrange(1, 6)
            table = [tuple([chance.randrange(-1, 2) for column in range(many)]) for row in range(chance.randrange(7))]
            parts = [chance.choice(list(all_parts(range(many)))) for place in range(chance.randrange(5))]
            parts.append(tuple([column for column in range(many) if not any(column in part for part in parts)]))
            self.assertEqual(put_together(table, parts), together_by_words(table, parts), (table, parts))

    def test_rows_that_fit_nothing_do_not_multiply(self):
        # Put together in the order in which they stand, the first three would be 8000000 rows.
        table = [(number,) * 6 for number in range(200)]
        self.assertEqual(put_together(table, [(0, 1), (2, 3), (4, 5), (1, 2), (3, 4)]), table)

    def test_what_is_handed_in_stays_and_lists_are_new(self):
        table, parts = [(2, 1), (1, 1), (2, 1)], [(1,), (0,)]
        first = put_together(table, parts)
        second = put_together(copy.deepcopy(table), copy.deepcopy(parts))
        self.assertEqual(first, second)
        self.assertIsNot(first, second)
        first.append(None)
        self.assertEqual(put_together(table, parts), second)
        self.assertEqual((table, parts), ([(2, 1), (1, 1), (2, 1)], [(1,), (0,)]))
        rising = [(1, 1), (2, 1)]
        self.assertIsNot(put_together(rising, [(0, 1)]), rising)


class SoundTest(unittest.TestCase):
    def walk(self, bonds, many, parts):
        told = sound(bonds, many, parts)
        self.assertIs(type(told), tuple)
        if told != ("sound", None):
            self.assertEqual((len(told), told[0]), (2, "rows"))
            table = told[1]
            self.assertIs(type(table), list)
            for row in table:
                self.assertIs(type(row), tuple)
                self.assertEqual([type(number) for number in row], [int] * many)
            for bond in bonds:
                self.assertTrue(keeps_by_words(table, bond), (bonds, parts, table))
            self.assertNotEqual(sorted(set(put_together(table, parts))), sorted(set(table)))
            self.assertNotEqual(put_together(table, parts), table)
        return told[0]

    def is_sound(self, bonds, many, parts):
        self.assertEqual(self.walk(bonds, many, parts), "sound", (bonds, parts))

    def is_not(self, bonds, many, parts):
        self.assertEqual(self.walk(bonds, many, parts), "rows", (bonds, parts))

    def test_one_part_with_all_columns(self):
        for bonds, many in CASES:
            everything = tuple(range(many))
            self.is_sound(bonds, many, [everything])
            self.is_sound(bonds, many, [(), everything, (0,)])
            self.is_sound(bonds, many, [everything, everything])

    def test_two_parts_on_whose_shared_columns_one_hangs(self):
        self.is_sound([((0,), (1,))], 3, [(0, 1), (0, 2)])
        self.is_sound([((0,), (2,))], 3, [(0, 1), (0, 2)])
        self.is_sound([((0,), (1,)), ((1,), (2,))], 4, [(0, 3), (0, 1, 2)])
        self.is_sound([((1, 2), (3,))], 4, [(1, 2, 3), (0, 1, 2)])

    def test_two_parts_that_are_not(self):
        self.is_not([], 2, [(0,), (1,)])
        self.is_not([], 3, [(0, 1), (1, 2)])
        self.is_not([((0,), (1,))], 3, [(0, 1), (1, 2)])
        self.is_not([((0,), (1,)), ((2,), (1,))], 3, [(0, 1), (1, 2)])
        self.is_not([((0, 3), (1,))], 4, [(0, 1), (0, 2, 3)])

    def test_three_and_more_parts(self):
        chain = [((0,), (1,)), ((1,), (2,)), ((2,), (3,))]
        self.is_sound(chain, 4, [(0, 1), (1, 2), (2, 3)])
        self.is_sound(chain, 4, [(2, 3), (0, 1), (1, 2)])
        self.is_sound(chain, 4, [(0, 1), (0, 2), (0, 3)])
        self.is_not(chain, 4, [(0, 3), (1, 3), (2, 3)])
        self.is_not([], 3, [(0, 1), (1, 2), (0, 2)])
        self.is_sound([((0,), (1,))], 3, [(0, 1), (1, 2), (0, 2)])
        self.is_not([], 6, [(0,), (1,), (2,), (3,), (4,), (5,)])
        self.is_not([((0,), (1,)), ((2,), (3,)), ((4,), (5,))], 6, [(0, 1), (2, 3), (4, 5)])
        self.is_sound([((0,), (1,)), ((2,), (3,)), ((4,), (5,))], 6, [(0, 1), (2, 3), (4, 5), (0, 2, 4)])

    def test_five_parts_by_bonds_that_use_one_another(self):
        bonds = [((0,), (2,)), ((1,), (2,)), ((2,), (3,)), ((3, 4), (2,)), ((2, 4), (0,))]
        parts = [(0, 3), (0, 1), (1, 4), (2, 3, 4), (0, 4)]
        self.is_sound(bonds, 5, parts)
        for place in range(5):
            self.is_not(bonds[:place] + bonds[place + 1:], 5, parts)

    def test_numbers_made_one_more_than_once(self):
        bonds = [((4,), (3,)), ((3,), (2,)), ((2,), (1,)), ((1,), (0,))]
        self.is_sound(bonds, 6, [(4, 5), (3, 4), (2, 3), (1, 2), (0, 1)])
        self.is_sound(bonds[::-1], 6, [(0, 1), (1, 2), (2, 3), (3, 4), (4, 5)])
        self.is_not(bonds[:3], 6, [(4, 5), (3, 4), (2, 3), (1, 2), (0, 1)][:4] + [(0, 2)])

    def test_bonds_with_an_empty_left(self):
        self.is_sound([((), (0,))], 2, [(0,), (1,)])
        self.is_sound([((), (1,))], 2, [(0,), (1,)])
        self.is_not([((), (2,))], 3, [(0,), (1,), (2,)])
        self.is_sound([((), (2,))], 3, [(0, 1), (2,)])
        self.is_sound([((), (0, 1, 2))], 3, [(0,), (1,), (2,)])
        self.is_sound([((), (0,)), ((0,), (1,))], 3, [(0,), (1,), (2,)])

    def test_a_part_twice_an_empty_one_and_one_within_another(self):
        self.is_sound([((0,), (1,))], 3, [(0, 1), (), (0, 2), (0, 1), (2,)])
        self.is_not([], 3, [(0, 1), (), (1, 2), (0, 1), (2,)])
        self.is_not([], 2, [(0,), (1,)] * 40)

    def test_all_threes_of_six_columns(self):
        self.is_not([], 6, list(itertools.combinations(range(6), 3)))
        self.is_not([], 6, list(itertools.combinations(range(6), 5)))
        self.is_sound([((0, 1), (2,))], 6, list(itertools.combinations(range(6), 5)))

    def test_all_parts_of_six_columns(self):
        parts = list(all_parts(range(6)))
        self.is_sound([], 6, parts)
        self.is_not([], 6, parts[:-1])
        self.is_sound([((), (3,))], 6, parts[:-1])

    def test_all_parts_of_three_columns(self):
        for some in all_parts([(0,), (1,), (2,), (0, 1), (0, 2), (1, 2)]):
            if len(some) <= 3 and {column for part in some for column in part} == {0, 1, 2}:
                for bonds in ([], [((0,), (1,))], [((), (2,))], [((0,), (1,)), ((1,), (2,))], [((0, 1), (2,))]):
                    self.assertEqual(self.walk(bonds, 3, list(some)) == "sound", sound_by_words(bonds, 3, some))

    def test_as_the_words_say(self):
        chance = random.Random(23)
        for turn in range(120):
            bonds, many = stock_of_bonds(chance, 4)
            parts = [chance.choice(list(all_parts(range(many)))) for place in range(chance.randrange(3))]
            parts.append(tuple([column for column in range(many) if not any(column in part for part in parts)]))
            self.assertEqual(self.walk(bonds, many, parts) == "sound", sound_by_words(bonds, many, parts))

    def test_two_parts_are_sound_if_one_hangs_on_what_they_share(self):
        chance = random.Random(29)
        for turn in range(300):
            bonds, many = stock_of_bonds(chance, 6)
            one = chance.choice(list(all_parts(range(many))))
            other = tuple([column for column in range(many) if column not in one or chance.randrange(2)])
            hanging = hanging_by_words(bonds, many, set(one) & set(other))
            expected = set(one) <= hanging or set(other) <= hanging
            self.assertEqual(self.walk(bonds, many, [one, other]) == "sound", expected, (bonds, one, other))

    def test_what_is_handed_in_stays_and_lists_are_new(self):
        bonds, parts = [((0,), (1,))], [(0, 1), (1, 2)]
        first = sound(bonds, 3, parts)
        second = sound(copy.deepcopy(bonds), 3, copy.deepcopy(parts))
        self.assertEqual(first, second)
        self.assertIsNot(first[1], second[1])
        first[1].append(None)
        self.assertEqual(sound(bonds, 3, parts), second)
        self.assertEqual((bonds, parts), ([((0,), (1,))], [(0, 1), (1, 2)]))


def first_parting(bonds, many, part):
    for columns in all_parts(part):
        others = [column for column in part if column not in columns]
        hanging = [column for column in others if column in hanging_by_words(bonds, many, columns)]
        if hanging and hanging != others:
            first = tuple([column for column in part if column in columns or column in hanging])
            return (first, tuple([column for column in part if column not in hanging]))
    return None


def cut_by_words(bonds, many, part):
    parted = first_parting(bonds, many, part)
    if parted is None:
        return [part]
    return cut_by_words(bonds, many, parted[0]) + cut_by_words(bonds, many, parted[1])


class SettledTest(unittest.TestCase):
    def is_settled(self, bonds, many, columns):
        self.assertIs(settled(bonds, many, columns), True)

    def is_not(self, bonds, many, columns):
        self.assertIs(settled(bonds, many, columns), False)

    def test_columns_that_hang_on_nothing(self):
        for many in range(1, 7):
            for columns in all_parts(range(many)):
                self.is_settled([], many, columns)
        self.is_settled([((0,), (1,))], 4, (0, 2, 3))
        self.is_settled([((0,), (1,))], 4, (1, 2, 3))

    def test_columns_that_hang_on_a_key(self):
        self.is_settled([((0,), (1, 2))], 3, (0, 1, 2))
        self.is_settled([((0,), (1,)), ((1,), (0,))], 2, (0, 1))
        self.is_settled([((0, 1), (2,))], 3, (0, 1, 2))
        self.is_settled([((0,), (1,))], 3, (0, 1))

    def test_columns_that_hang_on_what_is_no_key(self):
        self.is_not([((0,), (1,))], 3, (0, 1, 2))
        self.is_not([((0,), (1, 2)), ((1,), (2,))], 3, (0, 1, 2))
        self.is_not([((0, 1), (2,)), ((2,), (0,))], 3, (0, 1, 2))
        self.is_not([((0, 1), (2,))], 4, (0, 1, 2, 3))

    def test_columns_that_hang_on_no_column_at_all(self):
        self.is_not([((), (0,))], 2, (0, 1))
        self.is_not([((), (1,))], 2, (0, 1))
        self.is_settled([((), (0, 1))], 2, (0, 1))
        self.is_settled([((), (2,))], 3, (0, 1))
        self.is_settled([((), (0,)), ((0,), (1,))], 2, (0, 1))

    def test_a_part_of_none_and_of_one_column(self):
        for bonds, many in CASES:
            self.is_settled(bonds, many, ())
            for column in range(many):
                self.is_settled(bonds, many, (column,))

    def test_by_way_of_columns_outside_of_it(self):
        bonds = [((0,), (3,)), ((3,), (1,))]
        self.is_not(bonds, 4, (0, 1, 2))
        self.is_settled(bonds, 4, (0, 1))
        self.is_settled(bonds, 4, (1, 2))
        self.is_not([((), (3,)), ((3,), (1,))], 4, (0, 1, 2))

    def test_as_the_words_say(self):
        chance = random.Random(31)
        for bonds, many in CASES + [stock_of_bonds(chance, 6) for turn in range(60)]:
            for columns in all_parts(range(many)):
                expected = first_parting(bonds, many, columns) is None
                self.assertIs(settled(bonds, many, columns), expected, (bonds, columns))

    def test_what_is_handed_in_stays_as_it_was(self):
        for bonds, many in CASES:
            before = copy.deepcopy(bonds)
            first = settled(bonds, many, (0,))
            self.assertEqual(bonds, before)
            self.assertIs(settled(copy.deepcopy(bonds), many, (0,)), first)


class CutTest(unittest.TestCase):
    def cuts(self, bonds, many, told):
        self.assertEqual(cut(bonds, many), told)
        self.assertEqual(cut_by_words(bonds, many, tuple(range(many))), told)

    def test_settled_columns_at_once(self):
        for many in range(1, 7):
            self.cuts([], many, [tuple(range(many))])
        self.cuts([((0,), (1, 2))], 3, [(0, 1, 2)])
        self.cuts([((), (0, 1, 2))], 3, [(0, 1, 2)])
        self.cuts([((), (0,))], 1, [(0,)])

    def test_one_parting(self):
        self.cuts([((0,), (1,))], 3, [(0, 1), (0, 2)])
        self.cuts([((2,), (1,))], 3, [(1, 2), (0, 2)])
        self.cuts([((0, 1), (2,)), ((2,), (0,))], 3, [(0, 2), (1, 2)])

    def test_none_at_all_ahead_of_one(self):
        self.cuts([((), (2,))], 3, [(2,), (0, 1)])
        self.cuts([((0,), (1,)), ((), (2,))], 4, [(2,), (0, 1), (0, 3)])
        self.cuts([((), (0, 3))], 4, [(0, 3), (1, 2)])

    def test_fewest_first(self):
        # On 0 and 1 hangs 2, too, but 3 is alone and comes ahead.
        self.cuts([((0, 1), (2,)), ((3,), (4,))], 5, [(3, 4), (0, 1, 2), (0, 1, 3)])

    def test_then_in_order(self):
        self.cuts([((2,), (3,)), ((0,), (1,))], 4, [(0, 1), (2, 3), (0, 2)])
        self.cuts([((0, 3), (4,)), ((0, 2), (5,))], 6, [(0, 2, 5), (0, 3, 4), (0, 1, 2, 3)])

    def test_the_first_one_parted_ahead_of_the_second(self):
        self.cuts([((0,), (1,)), ((1,), (2,))], 4, [(1, 2), (0, 1), (0, 3)])
        self.cuts([((0,), (1,)), ((1,), (2,)), ((2,), (3,))], 5, [(2, 3), (1, 2), (0, 1), (0, 4)])
        bonds = [((0,), (1, 2)), ((1,), (2,)), ((3,), (4,))]
        self.cuts(bonds, 5, [(1, 2), (0, 1), (3, 4), (0, 3)])

    def test_by_way_of_columns_of_another_part(self):
        # Once 1 is out of the part, 2 still hangs on 0 by way of it.
        self.cuts([((0,), (1,)), ((1,), (0, 2))], 4, [(0, 1, 2), (0, 3)])
        self.cuts([((), (1,)), ((0, 1), (2,))], 4, [(1,), (0, 2), (0, 3)])

    def test_together_all_columns_sound_and_each_settled(self):
        chance = random.Random(37)
        for bonds, many in CASES + [stock_of_bonds(chance, 6) for turn in range(200)]:
            told = cut(bonds, many)
            self.assertIs(type(told), list)
            self.assertEqual(sorted({column for part in told for column in part}), list(range(many)))
            self.assertEqual(sound(bonds, many, told), ("sound", None), bonds)
            for part in told:
                self.assertIs(type(part), tuple)
                self.assertIs(settled(bonds, many, part), True, (bonds, told))

    def test_as_the_words_say(self):
        chance = random.Random(41)
        for bonds, many in CASES + [stock_of_bonds(chance, 6) for turn in range(200)]:
            self.assertEqual(cut(bonds, many), cut_by_words(bonds, many, tuple(range(many))), bonds)

    def test_what_is_handed_in_stays_and_lists_are_new(self):
        for bonds, many in CASES:
            before = copy.deepcopy(bonds)
            first = cut(bonds, many)
            second = cut(copy.deepcopy(bonds), many)
            self.assertEqual(first, second)
            self.assertIsNot(first, second)
            first.append(None)
            self.assertEqual(cut(bonds, many), second)
            self.assertEqual(bonds, before)


if __name__ == "__main__":
    unittest.main()
