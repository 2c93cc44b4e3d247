"""[1], [7], [8] and the interface of askbook/trees.py."""

import copy
import itertools
import unittest

from askbook.answers import answers
from askbook.errors import NoAsking, NoBook, NoTree
from askbook.fits import atom_fits, facts_by_name
from askbook.trees import by_tree, kept_by_tree, takings, tree

NO_ASKINGS = [
    None, True, 7, "ask", [], (), {}, object(), (("x",),), (("x",), ()), (("x",), (("r", ("y", "y")),)),
    [("x",), (("r", ("x", "x")),)], (("x",), (("s", ("x",)),) * 7), ((), (("s", (True,)),)), ((False,), (("s", (0,)),)),
    ((), (("s", (1,)), ("s", (1, 2)))), (["x"], (("s", ("x",)),)), (("x",) * 5, (("s", ("x",)),)),
]
NO_BOOKS = [
    None, True, 7, "book", (), {}, object(), [("s", (2,)), ("s", (1,))], [("s", (1,)), ("s", (1,))], [("s", (True,))],
    [("s", (1,)), ("s", (1, 2))], [("S", (1,))], [["s", (1,)]], [None], [("s", ())], [("s", (1, 2, 3, 4, 5))],
]


def edges(*pairs):
    return tuple([("r", tuple(pair)) for pair in pairs])


def wide(*threes):
    return tuple([("u", tuple(three)) for three in threes])


TREES = {
    "one atom": edges("xy"),
    "one atom without stand-ins": (("r", (1, 2)),),
    "one atom with a stand-in twice": edges("xx"),
    "two in a row": edges("xy", "yz"),
    "a row": edges("ab", "bc", "cd", "de", "ef", "fg"),
    "a row in another order": edges("cd", "ab", "ef", "bc", "fg", "de"),
    "a star": edges("xa", "xb", "xc", "xd", "xe", "fx"),
    "a star of four arms": (("t", ("p", "q", "v", "w")), ("s", ("p",)), ("s", ("v",))) + edges("qa", "wb"),
    "atoms without stand-ins": (("r", (1, 2)), ("s", (1,)), ("r", (2, 1))),
    "some without": (("r", ("x", 1)), ("s", (2,)), ("r", ("x", "y")), ("s", (1,))),
    "nothing in common": (("s", ("x",)), ("s", ("y",)), ("r", ("z", "w")), ("s", ("v",))),
    "two rows apart": edges("ab", "cd", "bx", "dy"),
    "the same atom twice": edges("xy", "xy"),
    "the same atom six times": edges("xy") * 6,
    "the same atoms twice in a row": edges("ab", "bc", "ab", "bc"),
    "there and back": edges("xy", "yx"),
    "a ring that one atom covers": edges("xy", "yz", "zx") + (("u", ("x", "y", "z")),),
    "a ring cut by a number": edges("xy", "yz") + (("r", ("z", 1)), ("r", (1, "x"))),
    "a row of wide atoms": wide("abc", "bcd", "cde", "def"),
    "a branch": edges("ab", "bc", "bd", "de", "df", "dg"),
    "two of one kind between": (("r", ("x", "y")), ("q", ("x", "y")), ("s", ("x",)), ("s", ("y",))),
}
KNOTS = {
    "a ring of three": edges("xy", "yz", "zx"),
    "a ring of four": edges("ab", "bc", "cd", "da"),
    "a ring of five": edges("ab", "bc", "cd", "de", "ea"),
    "a ring of six": edges("ab", "bc", "cd", "de", "ef", "fa"),
    "a ring in both directions": edges("xy", "zy", "zx"),
    "a ring with one hanging on it": edges("xy", "yz", "zx", "xw"),
    "a ring with a row hanging on it": edges("vu", "xy", "yz", "wv", "zx", "xw"),
    "a ring with an atom apart": edges("xy", "yz", "zx") + (("s", ("w",)), ("s", (1,))),
    "a ring with an atom twice": edges("xy", "xy", "yz", "zx"),
    "a ring with a smaller atom on it": edges("xy", "yz", "zx", "xx") + (("s", ("y",)),),
    "two rings": edges("ab", "bc", "ca", "pq", "qs", "sp"),
    "a ring of wide atoms": wide("abx", "bcy", "caz"),
    "four on all threes": wide("abc", "abd", "acd", "bcd"),
    "a ring not wholly covered": edges("ab", "bc", "cd", "da") + (("u", ("a", "b", "c")),),
}
BOOKS = [
    [],
    [("r", (1, 1))],
    [("r", (1, 2)), ("r", (2, 1)), ("s", (2,))],
    [("q", (0, 1)), ("q", (1, 2)), ("r", (0, 1)), ("r", (1, 1)), ("r", (1, 2)), ("r", (2, 0)), ("s", (0,)), ("s", (1,)),
     ("t", (0, 1, 0, 1)), ("t", (1, 1, 0, 2)), ("u", (0, 1, 1)), ("u", (1, 1, 1)), ("u", (1, 1, 2)), ("u", (1, 2, 0))],
    [("r", (-1, 1)), ("r", (0, 0)), ("r", (1, -1)), ("r", (1, 0)), ("r", (1, 1)), ("s", (1,)), ("s", (2,))],
    [("r", (1,)), ("r", (2,)), ("s", (1, 1)), ("s", (1, 2))],
    [("r", (1, 1, 1)), ("s", (1,)), ("t", (1, 1, 1)), ("u", (1, 1))],
    [("r", (1, 2)), ("r", (2, 3)), ("r", (3, 4)), ("r", (4, 5)), ("r", (5, 6)), ("r", (6, 7)), ("r", (7, 8))],
    [("r", (-10 ** 20, 10 ** 20)), ("r", (10 ** 20, -10 ** 20)), ("s", (10 ** 20,))],
]


def names_in(atom):
    return {term for term in atom[1] if isinstance(term, str)}


def may_be_taken(atoms, here, place, other):
    elsewhere = set()
    for at in here:
        if at != place:
            elsewhere |= names_in(atoms[at])
    return other != place and (names_in(atoms[place]) & elsewhere) <= names_in(atoms[other])


def stock_of_bodies():
    stock = edges("xy", "yz", "zx", "zw", "wx") + (("s", ("x",)), ("u", ("x", "y", "z")), ("r", (1, 1)))
    for many in (1, 2, 3):
        yield from itertools.product(stock, repeat=many)
    for many in (4, 5, 6):
        yield from itertools.combinations(stock, many)


class WalkedTest(unittest.TestCase):
    def walk_tree(self, atoms, told):
        self.assertEqual(len(told), 2)
        above = told[1]
        self.assertIs(type(above), list)
        self.assertEqual(len(above), len(atoms))
        self.assertEqual(above.count(None), 1)
        for place in range(len(atoms)):
            at, steps = place, 0
            while above[at] is not None:
                self.assertIs(type(above[at]), int)
                self.assertTrue(0 <= above[at] < len(atoms))
                at, steps = above[at], steps + 1
                self.assertLess(steps, len(atoms), "goes round")
        for name in set().union(*[names_in(atom) for atom in atoms]):
            having = [place for place in range(len(atoms)) if name in names_in(atoms[place])]
            alone = [place for place in having if above[place] not in having]
            self.assertEqual(len(alone), 1, (atoms, above, name))

    def walk_knot(self, atoms, told):
        self.assertEqual(len(told), 3)
        taken, left = told[1], told[2]
        self.assertIs(type(taken), list)
        self.assertIs(type(left), list)
        here = list(range(len(atoms)))
        for step in taken:
            self.assertIs(type(step), tuple)
            place, other = step
            self.assertIn(place, here)
            self.assertIn(other, here)
            self.assertTrue(may_be_taken(atoms, here, place, other))
            here.remove(place)
        self.assertEqual(left, here)
        self.assertGreaterEqual(len(left), 2)
        for place, other in itertools.permutations(left, 2):
            self.assertFalse(may_be_taken(atoms, left, place, other))

    def walk(self, asking):
        told = tree(asking)
        self.assertIs(type(told), tuple)
        self.assertIn(told[0], ("tree", "knot"))
        if told[0] == "tree":
            self.walk_tree(asking[1], told)
        else:
            self.walk_knot(asking[1], told)
        return told


class TreeTest(WalkedTest):
    def test_trees(self):
        for words, atoms in TREES.items():
            with self.subTest(words):
                self.assertEqual(self.walk(((), atoms))[0], "tree")
                self.assertEqual(self.walk(((), atoms[::-1]))[0], "tree")

    def test_knots(self):
        for words, atoms in KNOTS.items():
            with self.subTest(words):
                self.assertEqual(self.walk(((), atoms))[0], "knot")
                self.assertEqual(self.walk(((), atoms[::-1]))[0], "knot")

    def test_one_atom_has_none_above(self):
        self.assertEqual(tree(((), edges("xy"))), ("tree", [None]))
        self.assertEqual(tree((("x",), (("s", ("x",)),))), ("tree", [None]))

    def test_what_is_left_of_a_ring(self):
        self.assertEqual(tree(((), edges("xy", "yz", "zx"))), ("knot", [], [0, 1, 2]))
        told = tree(((), edges("vu", "xy", "yz", "wv", "zx", "xw")))
        self.assertEqual(told[2], [1, 2, 4])
        self.assertEqual(sorted([step[0] for step in told[1]]), [0, 3, 5])

    def test_the_head_does_not_count(self):
        ring = edges("xy", "yz", "zx")
        for head in [(), ("x",), ("x", "y", "z"), (1, 2, 3, 4)]:
            self.assertEqual(self.walk((head, ring))[0], "knot")
            self.assertEqual(self.walk((head, ring + (("u", ("z", "y", "x")),)))[0], "tree")

    def test_names_and_numbers_do_not_hold_atoms_together(self):
        self.assertEqual(self.walk(((), edges("xy", "yz") + (("z", ("x",)),)))[0], "tree")
        self.assertEqual(self.walk(((), (("r", (1, 2)), ("r", (2, 3)), ("r", (3, 1)))))[0], "tree")

    def test_many_askings(self):
        kinds = []
        for atoms in stock_of_bodies():
            kinds.append(self.walk(((), atoms))[0])
        self.assertIn("tree", kinds)
        self.assertIn("knot", kinds)

    def test_lists_are_new_each_time_and_equal(self):
        for atoms in [TREES["a row"], KNOTS["a ring with one hanging on it"]]:
            asking = ((), atoms)
            first = tree(asking)
            second = tree(copy.deepcopy(asking))
            self.assertEqual(first, second)
            for one, other in zip(first[1:], second[1:]):
                self.assertIsNot(one, other)
                one.clear()
            self.assertEqual(tree(asking), second)

    def test_no_asking(self):
        for wrong in NO_ASKINGS:
            self.assertRaises(NoAsking, tree, wrong)


class ByTreeTest(unittest.TestCase):
    def heads(self, atoms):
        names = sorted(set().union(*[names_in(atom) for atom in atoms]))
        yield ()
        yield (7, -7)
        for name in names:
            yield (name,)
            yield (name, 3, name)
        for pair in itertools.permutations(names, 2):
            yield pair
        if len(names) > 2:
            yield tuple(names[:4])
            yield tuple(names[-3:][::-1])

    def agree(self, asking):
        for book in BOOKS:
            told = by_tree(asking, book)
            self.assertIs(type(told), list)
            self.assertEqual(told, answers(asking, book), (asking, book))

    def test_trees(self):
        for words, atoms in TREES.items():
            with self.subTest(words):
                for head in self.heads(atoms):
                    self.agree((head, atoms))

    def test_many_askings(self):
        for atoms in stock_of_bodies():
            names = tuple(sorted(set().union(*[names_in(atom) for atom in atoms])))
            for asking in [((), atoms), (names[:1], atoms), (names[-2:], atoms), (names, atoms)]:
                if tree(asking)[0] == "tree":
                    self.agree(asking)
                else:
                    self.assertRaises(NoTree, by_tree, asking, BOOKS[3])

    def test_an_example(self):
        book = [("r", (1, 2)), ("r", (1, 3)), ("r", (2, 4)), ("r", (3, 4)), ("r", (4, 1)), ("s", (4,))]
        self.assertEqual(by_tree((("x", "z"), edges("xy", "yz")), book), [(1, 4), (2, 1), (3, 1), (4, 2), (4, 3)])
        self.assertEqual(by_tree((("x",), edges("xy", "yz") + (("s", ("z",)),)), book), [(1,)])
        self.assertEqual(by_tree(((), edges("xy") + (("s", (5,)),)), book), [])
        self.assertEqual(by_tree(((9,), edges("xy") + (("s", (4,)),)), book), [(9,)])

    def test_another_number_of_values(self):
        book = [("r", (1,)), ("s", (1, 2)), ("t", (1, 1, 1, 1))]
        self.assertEqual(by_tree((("x",), (("r", ("x", "y")),)), book), [])
        self.assertEqual(by_tree((("x",), (("s", ("x",)),)), book), [])
        self.assertEqual(by_tree(((), (("t", (1, 1, 1, 1)), ("s", (1,)))), book), [])
        self.assertEqual(by_tree(((), (("t", (1, 1, 1, 1)), ("s", (1, 2)))), book), [()])

    def test_what_fits_nothing_does_not_multiply(self):
        # Along the row all of the middle fits, but the ends of it only once.
        book = [("p", (0, 0)), ("q", (0, 0))] + sorted([("r", pair) for pair in itertools.product(range(60), repeat=2)])
        row = (("p", ("v", "a")),) + edges("ab", "bc", "cd") + (("q", ("d", "e")),)
        self.assertEqual(by_tree((("v", "e"), row), book), [(0, 0)])
        self.assertEqual(by_tree((("v", "a", "d", "e"), row), book), [(0, 0, 0, 0)])

    def test_of_each_atom_only_what_fits_is_kept(self):
        for words, atoms in TREES.items():
            taken = takings(atoms)[0]
            for book in BOOKS:
                facts_of = facts_by_name(book)
                for fits in kept_by_tree([atom_fits(atom, facts_of) for atom in atoms], taken):
                    with self.subTest(words):
                        self.assertEqual(sorted(fits.rows), answers((tuple(fits.columns), atoms), book))

    def test_atoms_apart_do_not_multiply(self):
        book = [("s", (number,)) for number in range(2000)]
        atoms = tuple([("s", (name,)) for name in "uvwxyz"])
        self.assertEqual(by_tree(((), atoms), book), [()])
        for name in "uxz":
            self.assertEqual(by_tree(((name,), atoms), book), [(number,) for number in range(2000)])

    def test_nothing_is_changed_and_lists_are_new(self):
        asking = (("x",), edges("xy", "yz"))
        book = list(BOOKS[3])
        first = by_tree(asking, book)
        second = by_tree(copy.deepcopy(asking), list(book))
        self.assertEqual(first, second)
        self.assertNotEqual(first, [])
        self.assertIsNot(first, second)
        first.clear()
        self.assertEqual(by_tree(asking, book), second)
        self.assertEqual(book, BOOKS[3])


class RefusedTest(unittest.TestCase):
    GOOD = (("x",), edges("xy", "yz"))
    KNOT = (("x",), edges("xy", "yz", "zx"))

    def test_knots(self):
        for words, atoms in KNOTS.items():
            with self.subTest(words):
                for book in BOOKS:
                    self.assertRaises(NoTree, by_tree, ((), atoms), book)

    def test_no_book(self):
        for book in NO_BOOKS:
            self.assertRaises(NoBook, by_tree, self.GOOD, book)
            self.assertRaises(NoBook, by_tree, self.KNOT, book)

    def test_no_asking(self):
        for asking in NO_ASKINGS:
            for book in BOOKS[:3] + NO_BOOKS:
                self.assertRaises(NoAsking, by_tree, asking, book)


if __name__ == "__main__":
    unittest.main()
