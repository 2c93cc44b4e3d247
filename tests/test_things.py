"""[1], [2], [3] and the interface of askbook/things.py."""

import copy
import unittest

from askbook.errors import NoAsking, NoBook
from askbook.things import checked_asking, checked_book

LONG = 10 ** 5000  # more figures than Python writes out as a text

NO_NUMBERS = [True, False, None, "one", "1", "", 1.0, float("nan"), 1j, [1], (1,), {}, {1}, b"1", object()]
NO_WORDS = [
    "", "abcdefghi", "Ab", "aB", "a1", "1", "a b", " a", "a ", "a_b", "a-b", "a\n", "\u00e9", "\u00df", "a\u0301",
    "\u0430", "\uff41", "`", "{", "\ud800", b"a", 1, True, None, ["a"], ("a",), {"a": 1}, object(),
]
NO_LISTS_OR_TUPLES = ["ab", "", 0, 7, True, None, {}, {"a": 1}, {1, 2}, frozenset(), 1.5, b"ab", object(), list, tuple]

GOOD_BOOKS = [
    [],
    [("a", (1,))],
    [("abcdefgh", (1, 2, 3, 4))],
    [("a", (0,)), ("z", (0,))],
    [("edge", (-3, 2)), ("edge", (-2, -9)), ("edge", (1, 2)), ("edge", (1, 3)), ("node", (1,))],
    [("a", (9,)), ("a", (10,)), ("ab", (-5, 5, 0)), ("b", (1,))],
    [("a", (-LONG,)), ("a", (-1,)), ("a", (LONG,)), ("a", (LONG + 1,))],
    [("lmnopqrs", (1,)), ("tuvwxyz", (1,)), ("xabcdef", (1,)), ("xghijk", (1,))],
    [("a", (1, 1, 1, 1)), ("a", (1, 1, 1, 2)), ("b", (1, 1, 1)), ("c", (1, 1)), ("d", (1,))],
]


class GoodBookTest(unittest.TestCase):
    def test_a_book_comes_back_as_a_new_list(self):
        for book in GOOD_BOOKS:
            before = copy.deepcopy(book)
            told = checked_book(book)
            self.assertIs(type(told), list)
            self.assertTrue(told == before)
            self.assertTrue(book == before)
            self.assertIsNot(told, book)

    def test_the_list_is_new_each_time(self):
        book = [("a", (1,)), ("a", (2,))]
        first = checked_book(book)
        second = checked_book(book)
        self.assertIsNot(first, second)
        first.clear()
        self.assertEqual(second, [("a", (1,)), ("a", (2,))])
        self.assertEqual(book, [("a", (1,)), ("a", (2,))])
        self.assertEqual(checked_book(book), second)

    def test_every_letter_and_every_length_of_a_name(self):
        for letter in "abcdefghijklmnopqrstuvwxyz":
            for many in range(1, 9):
                book = [(letter * many, (1,))]
                self.assertEqual(checked_book(book), book)

    def test_a_book_of_very_many_facts(self):
        book = [("a", (number, -number)) for number in range(20000)]
        self.assertEqual(checked_book(book), book)


class NoBookTest(unittest.TestCase):
    def refused(self, book):
        with self.subTest(book=type(book).__name__):
            self.assertRaises(NoBook, checked_book, book)

    def test_no_list(self):
        for book in NO_LISTS_OR_TUPLES:
            self.refused(book)
        self.refused(())
        self.refused((("a", (1,)),))
        self.refused(("a", (1,)))
        self.refused({("a", (1,)): True})
        self.refused({("a", (1,))})
        self.refused(iter([("a", (1,))]))

    def test_falling(self):
        self.refused([("b", (1,)), ("a", (1,))])
        self.refused([("a", (2,)), ("a", (1,))])
        self.refused([("a", (10,)), ("a", (9,))])
        self.refused([("a", (-1,)), ("a", (-2,))])
        self.refused([("a", (1, 3)), ("a", (1, 2))])
        self.refused([("ab", (1,)), ("a", (2,))])
        self.refused([("a", (1,)), ("a", (3,)), ("a", (2,))])
        self.refused([("a", (2,)), ("a", (1,)), ("a", (3,))])
        self.refused([("a", (LONG + 1,)), ("a", (LONG,))])

    def test_a_fact_twice(self):
        self.refused([("a", (1,)), ("a", (1,))])
        self.refused([("a", (1,)), ("b", (1,)), ("b", (1,))])
        self.refused([("a", (1,)), ("b", (1,)), ("a", (1,))])
        self.refused([("a", (LONG,)), ("a", (LONG + 0,))])

    def test_a_fact_that_is_none(self):
        for fact in NO_LISTS_OR_TUPLES + [[], ["a", (1,)], (), ("a",), ((1,),), ("a", (1,), ()), ("a", (1,), (2,))]:
            self.refused([fact])
            self.refused([("a", (0,)), fact])
            self.refused([fact, ("z", (0,))])

    def test_unlike_many_values(self):
        self.refused([("a", (1,)), ("a", (1, 2))])
        self.refused([("a", (1, 2)), ("a", (2,))])
        self.refused([("a", (1, 2)), ("a", (1, 3)), ("a", (2, 1, 1))])
        self.refused([("a", (1, 2, 3)), ("a", (1, 2, 3, 4)), ("b", (1,))])
        self.refused([("a", (1,)), ("b", (1,)), ("b", (1, 1, 1, 1))])

    def test_a_name_that_is_none(self):
        for name in NO_WORDS:
            self.refused([(name, (1,))])

    def test_values_that_are_none(self):
        for values in NO_LISTS_OR_TUPLES + [[], [1], (), (1, 2, 3, 4, 5), (1,) * 100]:
            self.refused([("a", values)])

    def test_a_value_that_is_none(self):
        for value in NO_NUMBERS:
            self.refused([("a", (value,))])
            self.refused([("a", (1, value))])
            self.refused([("a", (value, 2, 3, 4))])
            self.refused([("a", (0, 0, 0, 0)), ("a", (1, 2, 3, value))])

    def test_a_book_within_itself(self):
        book = []
        book.append(book)
        self.refused(book)
        book = [("a", (1,))]
        book.append(("b", book))
        self.refused(book)

    def test_what_is_refused_stays_as_it_was(self):
        book = [("b", (1,)), ("a", (1,)), ["c", [1]]]
        self.refused(book)
        self.assertEqual(book, [("b", (1,)), ("a", (1,)), ["c", [1]]])


GOOD_ASKINGS = [
    ((), (("a", (1,)),)),
    ((), (("a", ("x",)),)),
    (("x",), (("a", ("x",)),)),
    (("x", "x", "x", "x"), (("a", ("x", "x", "x", "x")),)),
    (("w", "x", "y", "z"), (("a", ("z", "y", "x", "w")),)),
    ((7, -7, 0, LONG), (("a", (LONG, -LONG, 0, -1)),)),
    (("x", 5, "y"), (("edge", ("x", "z")), ("edge", ("z", "y")), ("node", ("z",)))),
    (("x",), (("a", ("x",)), ("b", ("x",)), ("c", ("x",)), ("d", ("x",)), ("e", ("x",)), ("f", ("x",)))),
    (("x",), (("a", ("x",)),) * 6),
    (("a",), (("a", ("a",)), ("abcdefgh", ("abcdefgh", "a", 1)))),
    (("x",), (("a", (1,)), ("b", (2, 2)), ("c", (3, 3, 3)), ("d", (4, 4, 4, "x")))),
]


class GoodAskingTest(unittest.TestCase):
    def test_an_asking_comes_back_as_it_is(self):
        for asking in GOOD_ASKINGS:
            before = copy.deepcopy(asking)
            told = checked_asking(asking)
            self.assertIs(type(told), tuple)
            self.assertTrue(told == before)
            self.assertTrue(asking == before)

    def test_every_length_of_a_head_of_terms_and_of_atoms(self):
        for terms in range(1, 5):
            for head in range(0, 5):
                for atoms in range(1, 7):
                    asking = (("x",) * head, (("a", ("x",) * terms),) * atoms)
                    self.assertEqual(checked_asking(asking), asking)

    def test_every_letter_and_every_length_of_a_stand_in(self):
        for letter in "abcdefghijklmnopqrstuvwxyz":
            for many in range(1, 9):
                word = letter * many
                asking = ((word,), ((word, (word, 1)),))
                self.assertEqual(checked_asking(asking), asking)


class NoAskingTest(unittest.TestCase):
    def refused(self, asking):
        with self.subTest(asking=type(asking).__name__):
            self.assertRaises(NoAsking, checked_asking, asking)

    def test_no_tuple(self):
        for asking in NO_LISTS_OR_TUPLES:
            self.refused(asking)
        self.refused([])
        self.refused([("x",), (("a", ("x",)),)])
        self.refused({("x",): 1, (("a", ("x",)),): 2})

    def test_parts(self):
        atoms = (("a", ("x",)),)
        self.refused(())
        self.refused((("x",),))
        self.refused((atoms,))
        self.refused((("x",), atoms, ()))
        self.refused((("x",), atoms, atoms))

    def test_a_head_that_is_none(self):
        atoms = (("a", ("x", "y", "z", "w")),)
        for head in NO_LISTS_OR_TUPLES + [[], ["x"], "x", 1]:
            self.refused((head, atoms))
        self.refused((("x", "y", "z", "w", "x"), atoms))
        self.refused(((1, 2, 3, 4, 5), atoms))

    def test_a_term_that_is_none(self):
        for term in [thing for thing in NO_NUMBERS if thing != "one"] + NO_WORDS:
            if isinstance(term, int) and not isinstance(term, bool):
                continue
            self.refused(((term,), (("a", ("x",)),)))
            self.refused((("x", term), (("a", ("x",)),)))
            self.refused(((), (("a", (term,)),)))
            self.refused((("x",), (("a", ("x", 1, 2, term)),)))
            self.refused(((term,), (("a", (term,)),)))

    def test_a_stand_in_of_the_head_in_no_atom(self):
        self.refused((("y",), (("a", ("x",)),)))
        self.refused((("x", "y"), (("a", ("x",)),)))
        self.refused((("x",), (("a", (1,)),)))
        self.refused((("x",), (("x", (1,)),)))
        self.refused((("x", "xx"), (("a", ("x", "xxx")),)))
        self.refused((("w", "x", "y", "v"), (("a", ("w", "x")), ("b", ("y", "z")))))

    def test_atoms_that_are_none(self):
        for atoms in NO_LISTS_OR_TUPLES + [[], [("a", ("x",))], ("a", ("x",)), ()]:
            self.refused(((), atoms))
        self.refused(((), (("a", ("x",)),) * 7))
        self.refused(((), tuple([(name, (1,)) for name in "abcdefg"])))

    def test_an_atom_that_is_none(self):
        for atom in NO_LISTS_OR_TUPLES + [[], ["a", ("x",)], (), ("a",), (("x",),), ("a", ("x",), ()), ("a", "x", 1)]:
            self.refused(((), (atom,)))
            self.refused(((), (("b", (1,)), atom)))
            self.refused(((), (atom, ("b", (1,)))))

    def test_a_name_that_is_none(self):
        for name in NO_WORDS:
            self.refused(((), ((name, (1,)),)))
            self.refused((("x",), (("a", ("x",)), (name, ("x",)))))

    def test_terms_that_are_none(self):
        for terms in NO_LISTS_OR_TUPLES + [[], ["x"], "x", (), (1, 2, 3, 4, 5), ("x",) * 5]:
            self.refused(((), (("a", terms),)))

    def test_unlike_many_terms(self):
        self.refused(((), (("a", ("x",)), ("a", ("x", "y")))))
        self.refused(((), (("a", ("x", "y")), ("b", ("x",)), ("a", ("x", "y", 1)))))
        self.refused((("x",), (("a", (1, 2, 3, 4)), ("a", (1, 2, 3)), ("b", ("x",)))))

    def test_an_asking_that_holds_what_cannot_be_hashed(self):
        self.refused((([],), (("a", ([],)),)))
        self.refused((({},), (({}, ({},)),)))


if __name__ == "__main__":
    unittest.main()
