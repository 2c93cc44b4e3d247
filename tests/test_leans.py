"""[1], [6] and the interface of askbook/leans.py."""

import copy
import itertools
import unittest

from askbook.answers import answers
from askbook.errors import NoAsking
from askbook.leans import lean, needless
from askbook.things import checked_asking
from askbook.ways import alike, within

BOOKS = [
    [],
    [("r", (1, 1)), ("s", (1,))],
    [("r", (1, 2)), ("r", (2, 1)), ("s", (2,))],
    [("r", (0, 1)), ("r", (1, 1)), ("r", (1, 2)), ("r", (2, 0)), ("s", (0,)), ("s", (1,))],
]


def without(asking, place):
    return (asking[0], asking[1][:place] + asking[1][place + 1:])


def needless_by_words(asking, place):
    lesser = without(asking, place)
    try:
        checked_asking(lesser)
    except NoAsking:
        return False
    return within(lesser, asking)[0] == "way"


def lean_by_words(asking):
    left = list(range(len(asking[1])))
    for place in range(len(asking[1])):
        now = (asking[0], tuple([asking[1][at] for at in left]))
        if needless_by_words(now, left.index(place)):
            left.remove(place)
    return (asking[0], tuple([asking[1][at] for at in left]))


def stock_of_askings():
    stock = [("r", ("x", "y")), ("r", ("x", "z")), ("r", ("y", "x")), ("r", ("z", "z")), ("r", ("x", 1)), ("s", ("y",)),
             ("s", (1,))]
    for many in (1, 2, 3):
        for atoms in itertools.product(stock, repeat=many):
            terms = [term for atom in atoms for term in atom[1]]
            for head in [(), ("x",), ("x", "y"), ("z", 1)]:
                if all([name in terms for name in head if isinstance(name, str)]):
                    yield (head, atoms)


class NeedlessTest(unittest.TestCase):
    def told(self, asking, expected):
        self.assertEqual([needless(asking, place) for place in range(len(asking[1]))], expected)
        for place in range(len(asking[1])):
            self.assertIsInstance(needless(asking, place), bool)

    def test_an_atom_that_stands_twice(self):
        self.told((("x",), (("a", ("x", "y")), ("a", ("x", "y")))), [True, True])
        self.told(((), (("a", (1,)), ("b", ("x",)), ("a", (1,)))), [True, False, True])

    def test_an_atom_that_another_one_covers(self):
        self.told((("x",), (("a", ("x", "y")), ("a", ("x", 1)))), [True, False])
        self.told((("x",), (("a", ("x", 1)), ("a", ("x", "y")))), [False, True])
        self.told((("x",), (("a", ("x", "x")), ("a", ("x", "y")), ("a", ("z", "w")))), [False, True, True])

    def test_an_atom_whose_stand_ins_stand_elsewhere(self):
        self.told((("x",), (("a", ("x", "y")), ("a", ("x", 1)), ("b", ("y",)))), [False, False, False])
        self.told((("x", "y"), (("a", ("x", "y")), ("a", ("x", "z")))), [False, True])
        self.told((("x", "y"), (("a", ("x", "y")), ("a", ("x", "x")))), [False, False])

    def test_several_atoms_that_others_cover_together(self):
        atoms = (("a", ("x", "y")), ("b", ("y",)), ("a", ("x", "z")), ("b", ("z",)))
        self.told((("x",), atoms), [True, True, True, True])
        self.told((("y",), atoms), [False, False, True, True])
        self.told(((), (("e", ("x", "y")), ("e", ("y", "z")), ("e", ("w", "w")))), [True, True, False])

    def test_the_head_would_have_a_stand_in_that_stands_nowhere(self):
        self.told((("x",), (("a", ("x",)), ("a", ("y",)))), [False, True])
        self.told((("x", "y"), (("a", ("x",)), ("a", ("y",)))), [False, False])
        self.told((("y",), (("a", (1,)), ("a", ("y",)))), [False, False])

    def test_the_one_atom_of_an_asking(self):
        self.told(((), (("a", ("x",)),)), [False])
        self.told(((), (("a", (1,)),)), [False])
        self.told((("x",), (("a", ("x", "x")),)), [False])
        self.told(((7,), (("a", ("x",)),)), [False])

    def test_as_the_words_say(self):
        for asking in stock_of_askings():
            for place in range(len(asking[1])):
                self.assertIs(needless(asking, place), needless_by_words(asking, place), (asking, place))

    def test_the_answers_stay_without_it(self):
        for asking in stock_of_askings():
            for place in range(len(asking[1])):
                if needless(asking, place):
                    for book in BOOKS:
                        self.assertEqual(answers(without(asking, place), book), answers(asking, book))


class LeanTest(unittest.TestCase):
    def test_examples(self):
        self.assertEqual(lean((("x",), (("a", ("x", "y")), ("a", ("x", "z"))))), (("x",), (("a", ("x", "z")),)))
        self.assertEqual(lean((("x",), (("a", ("x", "y")),) * 6)), (("x",), (("a", ("x", "y")),)))
        self.assertEqual(lean((("x", "y"), (("a", ("x", "y")), ("a", ("x", "z"))))), (("x", "y"), (("a", ("x", "y")),)))
        self.assertEqual(lean(((), (("a", (1,)),))), ((), (("a", (1,)),)))

    def test_from_the_first_on(self):
        atoms = (("a", ("x", "p")), ("a", ("x", "q")), ("b", ("x",)), ("a", ("x", "r")))
        self.assertEqual(lean((("x",), atoms)), (("x",), (("b", ("x",)), ("a", ("x", "r")))))

    def test_several_behind_one_another(self):
        atoms = (("a", ("x", "y")), ("b", ("y",)), ("a", ("x", "z")), ("b", ("z",)), ("c", (1,)), ("c", ("w",)))
        self.assertEqual(lean((("x",), atoms)), (("x",), (("a", ("x", "z")), ("b", ("z",)), ("c", (1,)))))

    def test_what_is_lean_stays(self):
        ring = tuple([("e", terms) for terms in [("x", "y"), ("y", "z"), ("z", "x")]])
        for asking in [((), ring), (("x",), ring), ((3, "x"), (("a", ("x", "y")), ("b", ("y",))))]:
            self.assertEqual(lean(asking), asking)

    def test_a_ring_with_a_loop(self):
        ring = tuple([("e", terms) for terms in [("a", "b"), ("b", "c"), ("c", "d"), ("d", "a")]])
        self.assertEqual(lean(((), ring + (("e", ("z", "z")),))), ((), (("e", ("z", "z")),)))
        self.assertEqual(lean((("z",), (("e", ("z", "z")),) + ring)), (("z",), (("e", ("z", "z")),)))

    def test_as_the_words_say(self):
        for asking in stock_of_askings():
            told = lean(asking)
            self.assertEqual(told, lean_by_words(asking), asking)
            self.assertEqual(checked_asking(told), told)
            self.assertEqual(told[0], asking[0])
            self.assertIs(alike(told, asking), True)
            self.assertFalse(any([needless(told, place) for place in range(len(told[1]))]), asking)
            for book in BOOKS:
                self.assertEqual(answers(told, book), answers(asking, book))

    def test_equal_askings_give_equal_ones_and_stay_as_they_were(self):
        asking = (("x",), (("a", ("x", "y")), ("a", ("x", 1)), ("a", ("x", "y"))))
        before = copy.deepcopy(asking)
        self.assertEqual(lean(asking), lean(copy.deepcopy(asking)))
        self.assertEqual(asking, before)
        self.assertIs(type(lean(asking)), tuple)
        self.assertIs(type(lean(asking)[1]), tuple)


class RefusedTest(unittest.TestCase):
    def test_no_asking(self):
        for wrong in [
            None, True, 7, "ask", [], (), {}, object(), (("x",),), (("x",), ()), (("x",), (("a", ("y",)),)),
            [("x",), (("a", ("x",)),)], (("x",), (("a", ("x",)),) * 7), ((), (("a", (True,)),)),
            ((False,), (("a", (0,)),)), ((), (("a", (1,)), ("a", (1, 2)))), (["x"], (("a", ("x",)),)),
            (("x",) * 5, (("a", ("x",)),)),
        ]:
            self.assertRaises(NoAsking, lean, wrong)
            for place in range(3):
                self.assertRaises(NoAsking, needless, wrong, place)


if __name__ == "__main__":
    unittest.main()
