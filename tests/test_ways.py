"""[1], [5] and the interface of askbook/ways.py."""

import copy
import itertools
import unittest

from askbook.answers import answers
from askbook.errors import NoAsking, Unlike
from askbook.things import checked_book
from askbook.ways import alike, within

TWENTY = 12345678901234567890
LONG = 10 ** 5000  # more figures than Python writes out as a text

NO_ASKINGS = [
    None, True, 7, "ask", b"ask", 1.5, [], (), {}, object(), (("x",),), [("x",), (("a", ("x",)),)],
    (["x"], (("a", ("x",)),)), (("x",), [("a", ("x",))]), (("x",), ()), (("x",), (("a", ("x",)),) * 7),
    (("y",), (("a", ("x",)),)), ((True,), (("a", ("x",)),)), (("x",), (("a", ("x", False)),)),
    (("x",), (("a", ("x",)), ("a", ("x", "x")))), (("x", "x", "x", "x", "x"), (("a", ("x",)),)),
    (("x",), (("A", ("x",)),)), (("x",), (("a", ("x", "abcdefghi")),)), (([],), (("a", ([],)),)),
]


def chain(*names):
    return tuple([("e", (names[place], names[place + 1])) for place in range(len(names) - 1)])


class WalkedTest(unittest.TestCase):
    def walk_way(self, one, other, told):
        self.assertEqual(len(told), 2)
        way = told[1]
        self.assertIs(type(way), list)
        for step in way:
            self.assertIs(type(step), tuple)
            self.assertEqual(len(step), 2)
        names = []
        for atom in other[1]:
            names.extend([term for term in atom[1] if isinstance(term, str) and term not in names])
        self.assertEqual([step[0] for step in way], list(dict.fromkeys(names)))
        put = dict(way)
        for name, terms in other[1]:
            self.assertIn((name, tuple([put.get(term, term) for term in terms])), one[1])
        self.assertTrue(tuple([put.get(term, term) for term in other[0]]) == one[0])

    def walk_book(self, one, other, told):
        self.assertEqual(len(told), 3)
        book, row = told[1], told[2]
        self.assertIs(type(book), list)
        self.assertTrue(checked_book(book) == book)
        self.assertIs(type(row), tuple)
        self.assertTrue(row in answers(one, book))
        self.assertFalse(row in answers(other, book))

    def walk(self, one, other):
        told = within(one, other)
        self.assertIs(type(told), tuple)
        self.assertIn(told[0], ("way", "book"))
        if told[0] == "way":
            self.walk_way(one, other, told)
        else:
            self.walk_book(one, other, told)
        return told[0]

    def is_within(self, one, other):
        self.assertEqual(self.walk(one, other), "way")

    def is_not_within(self, one, other):
        self.assertEqual(self.walk(one, other), "book")


class WithinTest(WalkedTest):
    def test_an_asking_within_itself(self):
        for asking in [
            (("x",), (("a", ("x",)),)),
            ((), (("a", (1,)),)),
            (("x", 3, "x"), (("a", ("x", "y", 3)), ("b", ("y",)))),
            (("a", "f"), chain("a", "b", "c", "d", "e", "f")),
            ((LONG,), (("a", (LONG, -LONG, "x", "x")),)),
            (("x",), (("a", ("x",)),) * 6),
        ]:
            self.is_within(asking, asking)
            self.is_within(asking, copy.deepcopy(asking))

    def test_an_asking_within_itself_with_an_atom_less(self):
        atoms = (("a", ("x", "y")), ("b", ("y", 2)), ("c", ("x",)), ("d", ("z", "z")))
        for place in range(1, 4):
            less = atoms[:place] + atoms[place + 1:]
            self.is_within((("x",), atoms), (("x",), less))
            self.is_not_within((("x",), less), (("x",), atoms))

    def test_stand_ins_renamed(self):
        one = (("x", "z"), (("a", ("x", "y")), ("b", ("y", "z", "x"))))
        other = (("y", "x"), (("b", ("z", "x", "y")), ("a", ("y", "z"))))
        self.is_within(one, other)
        self.is_within(other, one)
        self.assertEqual(within(one, other), ("way", [("z", "y"), ("x", "z"), ("y", "x")]))

    def test_two_stand_ins_put_together(self):
        one = ((), (("a", ("x", "x")),))
        other = ((), (("a", ("x", "y")),))
        self.is_within(one, other)
        self.is_not_within(other, one)
        self.assertEqual(within(one, other), ("way", [("x", "x"), ("y", "x")]))
        self.is_within((("x", "x"), (("a", ("x", "x")),)), (("x", "y"), (("a", ("x", "y")),)))
        self.is_not_within((("x", "y"), (("a", ("x", "y")),)), (("x", "x"), (("a", ("x", "y")),)))

    def test_stand_ins_in_order_of_their_first_standing_in_the_atoms(self):
        one = (("z", "y"), (("a", ("x", "y", "z")), ("b", ("w", "x"))))
        self.assertEqual(within(one, one), ("way", [("x", "x"), ("y", "y"), ("z", "z"), ("w", "w")]))

    def test_numbers_where_the_other_has_stand_ins(self):
        one = (("x",), (("a", ("x", 5)),))
        other = (("x",), (("a", ("x", "y")),))
        self.assertEqual(within(one, other), ("way", [("x", "x"), ("y", 5)]))
        self.is_within(one, other)
        self.is_not_within(other, one)
        self.is_within(((5,), (("a", (5, 5)),)), (("x",), (("a", ("x", "y")),)))
        self.is_not_within(((), (("a", (5, 6)),)), ((), (("a", ("x", "x")),)))
        self.is_not_within(((), (("a", (5,)),)), ((), (("a", (6,)),)))

    def test_a_whole_way_may_need_to_step_back(self):
        one = ((), (("a", (1, 2)), ("a", (3, 4)), ("a", (4, 5)), ("b", (5,))))
        other = ((), (("a", ("x", "y")), ("a", ("y", "z")), ("b", ("z",))))
        self.assertEqual(within(one, other), ("way", [("x", 3), ("y", 4), ("z", 5)]))
        self.is_within(((), chain("a", "b", "a", "c", "d", "e")), ((), chain("p", "q", "r", "s", "t", "u", "v")))

    def test_heads_with_numbers(self):
        atoms = (("a", ("x",)),)
        self.is_within(((1,), atoms), ((1,), atoms))
        self.is_not_within(((1,), atoms), ((2,), atoms))
        self.is_not_within(((1,), atoms), (("x",), atoms))
        self.is_not_within((("x",), atoms), ((1,), atoms))
        self.is_within(((1,), (("a", (1,)),)), (("x",), atoms))
        self.is_within(((1, -1), (("a", (1,)),)), ((1, -1), atoms))
        self.is_not_within(((1, -1), (("a", (1,)),)), ((-1, 1), atoms))

    def test_heads_with_a_stand_in_twice(self):
        one = (("x", "x"), (("a", ("x", "y")),))
        other = (("x", "y"), (("a", ("x", "y")),))
        self.is_not_within(one, other)
        self.is_not_within(other, one)
        apart = (("x", "y"), (("a", ("x", "z")), ("a", ("y", "w"))))
        self.is_within(one, apart)
        self.is_not_within(apart, one)
        self.is_within((("x", "x", "x", "x"), (("b", ("x",)),)), (("p", "q", "p", "q"), (("b", ("p",)), ("b", ("q",)))))

    def test_empty_heads(self):
        ring_of_three = ((), chain("x", "y", "z", "x"))
        ring_of_six = ((), chain("a", "b", "c", "d", "e", "f", "a"))
        loop = ((), chain("x", "x"))
        self.is_within(ring_of_three, ring_of_six)
        self.is_not_within(ring_of_six, ring_of_three)
        self.is_within(loop, ring_of_three)
        self.is_not_within(ring_of_three, loop)
        self.is_within(((), (("a", (1,)),)), ((), (("a", ("x",)),)))
        self.assertEqual(within(((), (("a", (1,)),)), ((), (("a", (1,)),))), ("way", []))

    def test_names_that_the_other_asking_has_not(self):
        self.is_not_within(((), (("a", ("x",)),)), ((), (("b", ("x",)),)))
        self.is_within(((), (("a", ("x",)), ("b", ("x",)))), ((), (("b", ("x",)),)))

    def test_names_and_stand_ins_alike_are_kept_apart(self):
        self.is_within((("a",), (("b", ("a",)), ("a", ("b",)))), (("b",), (("a", ("a",)), ("b", ("b",)))))

    def test_unlike_many_terms_of_one_name(self):
        self.is_not_within(((), (("a", ("x",)),)), ((), (("a", ("x", "y")),)))
        self.is_not_within(((), (("a", ("x", "y")),)), ((), (("a", ("x",)),)))
        self.is_not_within((("x",), (("a", ("x", "x")), ("b", ("x",)))), (("x",), (("b", ("x",)), ("a", ("x", 1, 1)))))
        self.is_not_within(((), (("a", (1, 2)),)), ((), (("a", (1,)),)))

    def test_an_atom_twice_is_one_fact_of_the_book(self):
        self.is_not_within((("x",), (("a", ("x", "y")),) * 3), (("x",), (("a", ("x", "x")),)))
        self.is_not_within((("x",), (("a", (1, 2)),) * 2 + (("b", ("x",)),)), (("x",), (("b", ("x",)), ("a", (2, 1)))))

    def test_facts_of_the_book_rise(self):
        self.is_not_within(((), (("z", ("x",)), ("a", ("y",)), ("z", (-3,)), ("a", (9,)))), ((), (("b", (1,)),)))


class NumbersOfTheOtherTest(WalkedTest):
    def others(self, number, many):
        if many:
            yield (number,) * many, (("a", ("x", "y")),)
            yield ("x",) + (number,) * (many - 1), (("a", ("x", number)),)
        yield (number,) * many, (("a", ("x", number)),)
        yield (number,) * many, (("a", (number, "y")),)
        yield (number,) * many, (("a", (number, number + 1)),)

    def ones(self):
        yield (), (("a", ("x", "y")),)
        yield ("x",), (("a", ("x", "y")),)
        yield ("x", "y"), (("a", ("y", "x")), ("a", ("x", "y")))
        yield ("y", "y"), (("a", ("y", "y")),)

    def test_small_ones_and_ones_below_nought_and_long_ones(self):
        numbers = list(range(-12, 13)) + [100, 999, 1000, 1001, -100, -1000, 10 ** 6, 2 ** 31, 2 ** 63, 2 ** 64]
        numbers += [TWENTY, TWENTY + 1, -TWENTY, -TWENTY - 1, 10 ** 19, 10 ** 20 - 1, 10 ** 20, LONG, -LONG]
        for one in self.ones():
            for number in numbers:
                for other in self.others(number, len(one[0])):
                    self.is_not_within(one, other)

    def test_just_such_numbers_as_a_told_book_has(self):
        for one in self.ones():
            told = within(one, (one[0], one[1] + (("nowhere", (1,)),)))
            for step in range(5):
                book, row = told[1], told[2]
                frozen = (row, tuple(book))
                self.is_not_within(one, frozen)
                told = within(one, frozen)

    def test_such_numbers_in_the_head_alone_and_in_the_one_too(self):
        atoms = (("a", ("x",)),)
        told = within((("x",), atoms), ((0,), atoms))
        for step in range(5):
            self.is_not_within((("x",), atoms), (told[2], atoms))
            told = within((("x",), atoms), (told[2], atoms))
        for number in range(-9, 10):
            self.is_not_within(((), (("a", ("x",)), ("b", (number,)))), ((), (("a", ("x",)), ("b", ("x",)))))
            self.is_not_within((("x", number), (("b", ("x",)),)), (("x", "x"), (("b", ("x",)),)))
            self.is_not_within((("x",), (("b", ("x",)), ("a", (number,)))), (("x",), (("b", ("x",)), ("a", ("x",)))))


class ManyAskingsTest(WalkedTest):
    """A way or a book is shown for every pair of a stock: what is shown is walked, so it is so."""

    STOCK = [("r", ("x", "y")), ("r", ("y", "x")), ("r", ("y", "z")), ("r", ("x", "x")), ("r", ("x", 1)), ("r", (1, 2)),
             ("s", ("x",)), ("s", (1,))]

    def test_pairs(self):
        bodies = list(itertools.combinations(self.STOCK, 1)) + list(itertools.combinations(self.STOCK, 2))
        bodies += [chain("x", "y", "z"), chain("x", "y", "z", "x"), chain("x", "y", "x"), chain(1, "x", "y")]
        for heads in [("x",), ()]:
            askings = []
            for atoms in bodies:
                terms = [term for atom in atoms for term in atom[1]]
                if all([name in terms for name in heads]):
                    askings.append((heads, atoms))
            for one, other in itertools.product(askings, repeat=2):
                self.walk(one, other)


class AlikeTest(WalkedTest):
    def test_renamed_turned_and_doubled(self):
        one = (("x",), (("a", ("x", "y")), ("b", ("y",))))
        self.assertIs(alike(one, one), True)
        self.assertIs(alike(one, (("p",), (("b", ("q",)), ("a", ("p", "q"))))), True)
        self.assertIs(alike(one, (("x",), one[1] + (("a", ("x", "z")),))), True)
        self.assertIs(alike((("x",), one[1] + (("a", ("x", "z")),)), one), True)

    def test_one_side_alone_is_not_enough(self):
        one = (("x",), (("a", ("x", "y")), ("b", ("y",))))
        other = (("x",), (("a", ("x", "y")),))
        self.assertIs(alike(one, other), False)
        self.assertIs(alike(other, one), False)

    def test_neither_side(self):
        self.assertIs(alike(((), (("a", ("x",)),)), ((), (("b", ("x",)),))), False)
        self.assertIs(alike((("x", "y"), (("a", ("x", "y")),)), (("y", "x"), (("a", ("x", "y")),))), False)
        self.assertIs(alike(((1,), (("a", ("x",)),)), ((2,), (("a", ("x",)),))), False)

    def test_just_where_both_are_within_each_other(self):
        stock = ManyAskingsTest.STOCK
        askings = [((), atoms) for many in (1, 2) for atoms in itertools.product(stock[:5] + stock[6:], repeat=many)]
        for one, other in itertools.product(askings[::3], askings[::2]):
            both = within(one, other)[0] == "way" and within(other, one)[0] == "way"
            self.assertIs(alike(one, other), both)


class RefusedTest(unittest.TestCase):
    GOOD = (("x",), (("a", ("x",)),))

    def test_either_is_none(self):
        for asked in (within, alike):
            for wrong in NO_ASKINGS:
                for head in [("x",), (), ("x", "x"), (1, 2, 3, 4)]:
                    good = (head, (("a", ("x",)),))
                    self.assertRaises(NoAsking, asked, wrong, good)
                    self.assertRaises(NoAsking, asked, good, wrong)
                for other in NO_ASKINGS:
                    self.assertRaises(NoAsking, asked, wrong, other)

    def test_a_bad_asking_behind_one_that_is_not_within(self):
        self.assertRaises(NoAsking, alike, self.GOOD, (("x",), (("b", ("y",)),)))

    def test_heads_of_unlike_many_terms(self):
        atoms = (("a", ("x", "y")),)
        heads = [(), ("x",), ("x", "x"), ("x", "y", 1), ("x", "y", "x", "y")]
        for one, other in itertools.product(heads, repeat=2):
            for others_atoms in (atoms, (("b", ("y", "x")),)):
                if len(one) != len(other):
                    self.assertRaises(Unlike, within, (one, atoms), (other, others_atoms))
                    self.assertRaises(Unlike, alike, (one, atoms), (other, others_atoms))

    def test_heads_of_unlike_many_numbers(self):
        self.assertRaises(Unlike, within, ((1,), (("a", (1,)),)), ((1, 1), (("a", (1,)),)))


class NothingIsChangedTest(unittest.TestCase):
    def test_lists_are_new_each_time_and_equal(self):
        one = (("x",), (("a", ("x", "y")), ("b", (1,))))
        for other in [(("z",), (("a", ("z", "w")),)), (("z",), (("a", ("z", "z")),))]:
            before = copy.deepcopy((one, other))
            first = within(one, other)
            second = within(copy.deepcopy(one), copy.deepcopy(other))
            self.assertEqual(first, second)
            self.assertIsNot(first[1], second[1])
            first[1].clear()
            self.assertEqual(within(one, other), second)
            self.assertEqual((one, other), before)


if __name__ == "__main__":
    unittest.main()
