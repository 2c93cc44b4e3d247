"""[1], [4] and the interface of askbook/answers.py."""

import copy
import itertools
import unittest

from askbook.answers import answers
from askbook.errors import NoAsking, NoBook

EDGES = [
    ("edge", (1, 1)), ("edge", (1, 2)), ("edge", (2, 3)), ("edge", (3, 1)), ("edge", (3, 4)),
    ("node", (1,)), ("node", (4,)),
]


def becomes(atom, put):
    return (atom[0], tuple([put.get(term, term) for term in atom[1]]))


def answers_by_words(asking, book):
    """[4] as it stands: all numbers of the book, put for all stand-ins in every way."""
    head, atoms = asking
    names = sorted({term for atom in atoms for term in atom[1] if isinstance(term, str)})
    numbers = sorted({value for fact in book for value in fact[1]})
    found = set()
    for values in itertools.product(numbers, repeat=len(names)):
        put = dict(zip(names, values))
        if all(becomes(atom, put) in book for atom in atoms):
            found.add(tuple([put.get(term, term) for term in head]))
    return sorted(found)


class AnswersTest(unittest.TestCase):
    def told(self, head, atoms, book, rows):
        self.assertEqual(answers((head, atoms), book), rows)

    def test_one_atom(self):
        self.told(("x", "y"), (("edge", ("x", "y")),), EDGES, [(1, 1), (1, 2), (2, 3), (3, 1), (3, 4)])
        self.told(("y", "x"), (("edge", ("x", "y")),), EDGES, [(1, 1), (1, 3), (2, 1), (3, 2), (4, 3)])
        self.told(("x",), (("node", ("x",)),), EDGES, [(1,), (4,)])

    def test_each_answer_once(self):
        self.told(("x",), (("edge", ("x", "y")),), EDGES, [(1,), (2,), (3,)])
        self.told(("y",), (("edge", ("x", "y")),), EDGES, [(1,), (2,), (3,), (4,)])

    def test_answers_rise_as_numbers_not_as_texts(self):
        book = [("a", (-20, 1)), ("a", (-3, 0)), ("a", (9, 10)), ("a", (10, 9)), ("a", (100, -4))]
        self.told(("x",), (("a", ("x", "y")),), book, [(-20,), (-3,), (9,), (10,), (100,)])
        self.told(("y",), (("a", ("x", "y")),), book, [(-4,), (0,), (1,), (9,), (10,)])

    def test_a_stand_in_twice_in_an_atom(self):
        self.told(("x",), (("edge", ("x", "x")),), EDGES, [(1,)])
        book = [("a", (1, 2, 1, 2)), ("a", (1, 2, 1, 3)), ("a", (1, 2, 2, 2)), ("a", (5, 5, 5, 5))]
        self.told(("x", "y"), (("a", ("x", "y", "x", "y")),), book, [(1, 2), (5, 5)])

    def test_unlike_stand_ins_may_become_the_same_number(self):
        self.told(("x", "y"), (("edge", ("x", "y")), ("edge", ("y", "x"))), EDGES, [(1, 1)])

    def test_a_stand_in_in_several_atoms(self):
        self.told(("x", "z"), (("edge", ("x", "y")), ("edge", ("y", "z"))), EDGES,
                  [(1, 1), (1, 2), (1, 3), (2, 1), (2, 4), (3, 1), (3, 2)])
        self.told(("x", "y", "z"), (("edge", ("x", "y")), ("edge", ("y", "z")), ("edge", ("z", "x"))), EDGES,
                  [(1, 1, 1), (1, 2, 3), (2, 3, 1), (3, 1, 2)])

    def test_a_stand_in_twice_in_the_head(self):
        self.told(("x", "x"), (("node", ("x",)),), EDGES, [(1, 1), (4, 4)])
        self.told(("y", "x", "y", "x"), (("edge", ("x", "y")), ("node", ("y",))), EDGES,
                  [(1, 1, 1, 1), (1, 3, 1, 3), (4, 3, 4, 3)])

    def test_numbers_in_atoms(self):
        self.told(("y",), (("edge", (3, "y")),), EDGES, [(1,), (4,)])
        self.told(("x",), (("edge", ("x", 1)),), EDGES, [(1,), (3,)])
        self.told(("x",), (("edge", ("x", 5)),), EDGES, [])
        self.told(("x",), (("node", ("x",)), ("edge", (1, 2))), EDGES, [(1,), (4,)])
        self.told(("x",), (("node", ("x",)), ("edge", (2, 1))), EDGES, [])

    def test_numbers_in_the_head(self):
        self.told((7, "x", -7), (("node", ("x",)),), EDGES, [(7, 1, -7), (7, 4, -7)])
        self.told((0, 0), (("node", ("x",)),), EDGES, [(0, 0)])
        self.told((5,), (("node", (5,)),), EDGES, [])

    def test_an_empty_head(self):
        self.told((), (("edge", ("x", "x")),), EDGES, [()])
        self.told((), (("edge", ("x", "y")),), EDGES, [()])
        self.told((), (("edge", (3, 4)),), EDGES, [()])
        self.told((), (("edge", (4, 3)),), EDGES, [])
        self.told((), (("node", ("x",)), ("edge", ("x", "x")), ("edge", ("x", 4))), EDGES, [])

    def test_the_empty_book(self):
        self.told(("x",), (("a", ("x",)),), [], [])
        self.told((), (("a", (1,)),), [], [])
        self.told((3,), (("a", ("x",)), ("b", ("y",))), [], [])

    def test_a_name_that_is_not_in_the_book(self):
        self.told(("x",), (("nodes", ("x",)),), EDGES, [])
        self.told(("x",), (("nod", ("x",)),), EDGES, [])
        self.told(("x",), (("node", ("x",)), ("colour", ("x", "y"))), EDGES, [])
        self.told(("x",), (("colour", ("y",)), ("node", ("x",))), EDGES, [])

    def test_another_number_of_values(self):
        self.told(("x",), (("edge", ("x",)),), EDGES, [])
        self.told(("x",), (("edge", ("x", "y", "z")),), EDGES, [])
        self.told(("x",), (("node", ("x", "x")),), EDGES, [])
        self.told((), (("edge", (1,)),), EDGES, [])
        self.told((), (("edge", (1, 1, 1)),), EDGES, [])
        self.told(("x",), (("node", ("x",)), ("edge", ("x",))), EDGES, [])

    def test_names_and_stand_ins_alike_are_kept_apart(self):
        self.told(("a", "b"), (("a", ("b", "a")), ("b", ("a",))), [("a", (1, 2)), ("a", (2, 1)), ("b", (2,))], [(2, 1)])

    def test_numbers_of_many_figures(self):
        long = 10 ** 5000
        book = [("a", (-long, long)), ("a", (long, long + 1))]
        self.assertTrue(answers((("x", "z"), (("a", ("x", "y")), ("a", ("y", "z")))), book) == [(-long, long + 1)])
        self.assertTrue(answers((("x",), (("a", ("x", long)),)), book) == [(-long,)])
        self.assertTrue(answers(((long,), (("a", (long, long + 1)),)), book) == [(long,)])

    def test_six_atoms(self):
        book = [("next", (number, number + 1)) for number in range(8)]
        names = "abcdefg"
        atoms = tuple([("next", (names[place], names[place + 1])) for place in range(6)])
        self.told(("a", "g"), atoms, book, [(0, 6), (1, 7), (2, 8)])
        self.told(("g", "a"), atoms[::-1], book, [(6, 0), (7, 1), (8, 2)])
        self.told(("a", "d", "g"), (atoms[0], atoms[5], atoms[2], atoms[3], atoms[1], atoms[4]), book,
                  [(0, 3, 6), (1, 4, 7), (2, 5, 8)])

    def test_atoms_apart_from_one_another(self):
        self.told(("x", "y"), (("node", ("x",)), ("node", ("y",))), EDGES, [(1, 1), (1, 4), (4, 1), (4, 4)])
        self.told(("x",), (("node", ("x",)), ("edge", ("y", "z"))), EDGES, [(1,), (4,)])

    def test_the_same_atom_again(self):
        self.told(("x",), (("node", ("x",)),) * 6, EDGES, [(1,), (4,)])

    def test_atoms_apart_do_not_multiply(self):
        # Each atom fits 2000 facts: the product of all six could not be walked.
        book = [("a", (number,)) for number in range(2000)]
        self.told((), tuple([("a", (name,)) for name in "uvwxyz"]), book, [()])

    def test_atoms_that_hang_together_in_another_order_do_not_multiply(self):
        book = [("next", (number, number + 1)) for number in range(20000)]
        atoms = (("next", ("a", "b")), ("next", ("c", "d")), ("next", ("e", "f")),
                 ("next", ("b", "c")), ("next", ("d", "e")))
        self.told(("a", "f"), atoms, book, [(number, number + 5) for number in range(19996)])


class AgainstTheWordsTest(unittest.TestCase):
    """Every asking of one and two atoms from a small stock, in several books."""

    BOOKS = [
        [],
        [("r", (1, 1))],
        [("r", (1, 2)), ("r", (2, 1)), ("s", (2,))],
        [("r", (0, 1)), ("r", (1, 1)), ("r", (1, 2)), ("r", (2, 0)), ("s", (0,)), ("s", (1,))],
        [("r", (-1, 1)), ("r", (0, 0)), ("r", (1, -1)), ("r", (1, 0)), ("r", (1, 1)), ("s", (1,)), ("s", (2,))],
        [("r", (1,)), ("r", (2,)), ("s", (1, 1)), ("s", (1, 2))],
    ]

    def agree(self, asking):
        for book in self.BOOKS:
            self.assertEqual(answers(asking, book), answers_by_words(asking, book), (asking, book))

    def heads(self, atoms):
        names = sorted({term for atom in atoms for term in atom[1] if isinstance(term, str)})
        terms = names + [1]
        for many in range(3):
            yield from itertools.product(terms, repeat=many)

    def test_askings_of_one_and_two_atoms(self):
        stock = [("r", terms) for terms in itertools.product(("x", "y", 1), repeat=2)]
        stock += [("s", ("x",)), ("s", ("z",)), ("s", (1,)), ("r", ("y", "z"))]
        for one in stock:
            for head in self.heads((one,)):
                self.agree((head, (one,)))
            for other in stock:
                for head in self.heads((one, other)):
                    self.agree((head, (one, other)))

    def test_askings_of_three_atoms(self):
        stock = [("r", ("x", "y")), ("r", ("y", "z")), ("r", ("z", "x")), ("r", ("w", "z")), ("s", ("y",)), ("s", ("w",))]
        for atoms in itertools.product(stock, repeat=3):
            names = sorted({term for atom in atoms for term in atom[1]})
            self.agree((tuple(names), atoms))
            self.agree((tuple(names[-1:]), atoms))


class NothingIsChangedTest(unittest.TestCase):
    def test_asking_and_book_stay_as_they_were(self):
        asking = (("x", 1), (("edge", ("x", "y")), ("node", ("y",))))
        book = list(EDGES)
        asking_before = copy.deepcopy(asking)
        answers(asking, book)
        self.assertEqual(book, EDGES)
        self.assertEqual(asking, asking_before)

    def test_the_list_is_new_each_time_and_equal(self):
        asking = (("x",), (("node", ("x",)),))
        first = answers(asking, EDGES)
        second = answers(copy.deepcopy(asking), list(EDGES))
        self.assertIs(type(first), list)
        self.assertEqual(first, second)
        self.assertIsNot(first, second)
        first.append((9,))
        self.assertEqual(answers(asking, EDGES), second)

    def test_answers_are_tuples_of_numbers(self):
        for row in answers((("x", 3), (("edge", ("x", "y")),)), EDGES):
            self.assertIs(type(row), tuple)
            self.assertEqual([type(value) for value in row], [int, int])


class RefusedTest(unittest.TestCase):
    GOOD = (("x",), (("edge", ("x", "y")),))
    NO_ASKINGS = [
        None, 7, "ask", [], (), [("x",), (("edge", ("x", "y")),)], (("z",), (("edge", ("x", "y")),)),
        ((True,), (("edge", ("x", "y")),)), (("x",), (("edge", ("x", False)),)), (("x",), ()),
    ]
    NO_BOOKS = [
        None, 7, "book", (), {}, [("edge", (2, 1)), ("edge", (1, 1))], [("edge", (1, 1)), ("edge", (1, 1))],
        [("edge", (1, True))], [("edge", [1, 1])], [("edge", (1,)), ("edge", (1, 2))], [("Edge", (1, 1))], [[]],
        [("a", (2,)), ("a", (1,))],
    ]

    def test_a_bad_asking(self):
        for asking in self.NO_ASKINGS:
            self.assertRaises(NoAsking, answers, asking, EDGES)
            self.assertRaises(NoAsking, answers, asking, [])

    def test_a_bad_book(self):
        for book in self.NO_BOOKS:
            self.assertRaises(NoBook, answers, self.GOOD, book)

    def test_both_bad(self):
        for asking in self.NO_ASKINGS:
            for book in self.NO_BOOKS:
                self.assertRaises(NoAsking, answers, asking, book)


if __name__ == "__main__":
    unittest.main()
