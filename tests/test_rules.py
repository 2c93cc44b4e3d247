"""[1], [9], [10] and the interface of askbook/rules.py."""

import copy
import itertools
import unittest

from askbook.errors import NoBook, NoRules
from askbook.rules import comes, why
from askbook.things import checked_book

LONG = 10 ** 5000  # more figures than Python writes out as a text

ROW = [("edge", (1, 2)), ("edge", (2, 3)), ("edge", (3, 4)), ("edge", (4, 5))]
PATH = [
    (("path", ("x", "y")), (("edge", ("x", "y")),)),
    (("path", ("x", "z")), (("path", ("x", "y")), ("edge", ("y", "z")))),
]
CASES = [
    ([], []),
    ([], ROW),
    (PATH, []),
    (PATH, ROW),
    (PATH, [("edge", (1, 2)), ("edge", (2, 1)), ("edge", (2, 3)), ("edge", (3, 3))]),
    (PATH, ROW + [("path", (1, 3)), ("path", (9, 1))]),
    (PATH[::-1], ROW),
    ([PATH[0], (("path", ("x", "z")), (("path", ("x", "y")), ("path", ("y", "z"))))], ROW),
    ([PATH[0], (("path", ("x", "z")), (("edge", ("x", "y")), ("path", ("y", "z"))))], ROW),
    ([(("edge", ("y", "x")), (("edge", ("x", "y")),))], ROW),
    ([(("edge", ("x", "y")), (("edge", ("x", "y")),))], ROW),
    ([(("edge", ("x", "x")), (("edge", ("x", "y")), ("edge", ("z", "x"))))], ROW),
    ([(("a", ("x", 7)), (("edge", ("x", 3)),)), (("b", ("y", "x")), (("a", ("x", "y")),))], ROW),
    ([(("a", (1, -1)), (("edge", ("x", "y")), ("edge", ("y", "z"))))], ROW),
    ([(("a", (1,)), (("edge", (2, 3)),)), (("a", (2,)), (("a", (1,)),)), (("a", (3,)), (("a", (4,)),))], ROW),
    ([(("pair", ("x", "y")), (("node", ("x",)), ("node", ("y",))))], [("node", (1,)), ("node", (2,)), ("node", (3,))]),
    ([(("a", ("w", "x", "y", "z")), (("n", ("z",)), ("n", ("y",)), ("n", ("x",)), ("n", ("w",))))],
     [("n", (0,)), ("n", (1,))]),
    ([(("one", ("x",)), (("e", ("x", "p")), ("e", ("x", "q")), ("f", ("q", "p")), ("f", ("q", "q"))))],
     [("e", (1, 2)), ("e", (1, 3)), ("e", (2, 3)), ("f", (2, 2)), ("f", (3, 2))]),
    ([(("c", ("x",)), (("a", ("x",)), ("b", ("x",)))), (("b", ("x",)), (("c", ("y",)), ("d", ("y", "x")))),
      (("d", ("x", "y")), (("a", ("x",)), ("a", ("y",))))], [("a", (1,)), ("a", (2,)), ("a", (3,)), ("b", (2,))]),
    ([(("even", ("y",)), (("odd", ("x",)), ("next", ("x", "y")))),
      (("odd", ("y",)), (("even", ("x",)), ("next", ("x", "y"))))],
     [("even", (0,))] + [("next", (number, number + 1)) for number in range(6)]),
    ([(("a", (letter,)), (("b", (letter,)),)) for letter in "pqrstuvw"], [("b", (-5,)), ("b", (5,))]),
    ([(("b", ("y", "x")), (("a", ("x", "y")),)), (("c", ("x", "y")), (("b", ("x", "y")), ("a", ("y", "x"))))],
     [("a", (-10 ** 20, 10 ** 20)), ("a", (10 ** 20, 5))]),
    ([(("s", ("x", "z", "z")), (("t", ("x", "x", "y", "z")), ("t", ("z", "x", "y", "x"))))],
     [("t", (1, 1, 2, 1)), ("t", (1, 1, 2, 3)), ("t", (1, 2, 2, 1)), ("t", (3, 1, 2, 1))]),
]


def becomes(atom, put):
    return (atom[0], tuple([put.get(term, term) for term in atom[1]]))


def made_by_words(rule, facts):
    """[9] as it stands: all that the rule makes of the facts, with all it makes it of."""
    first, atoms = rule
    names = sorted({term for atom in atoms for term in atom[1] if isinstance(term, str)})
    numbers = sorted({value for fact in facts for value in fact[1]})
    for values in itertools.product(numbers, repeat=len(names)):
        put = dict(zip(names, values))
        if all(becomes(atom, put) in facts for atom in atoms):
            yield becomes(first, put)


def comes_by_words(rules, book):
    facts = set(book)
    while True:
        more = {fact for rule in rules for fact in made_by_words(rule, facts)} - facts
        if not more:
            return sorted(facts)
        facts |= more


class ComesTest(unittest.TestCase):
    def test_no_rules(self):
        for book in [[], ROW, [("a", (1,)), ("b", (-1, 2, 3, 4))]]:
            told = comes([], book)
            self.assertEqual(told, book)
            self.assertIsNot(told, book)

    def test_rules_that_make_nothing_new(self):
        self.assertEqual(comes([(("edge", ("x", "y")), (("edge", ("x", "y")),))], ROW), ROW)
        self.assertEqual(comes([(("edge", ("x", "y")), (("edge", ("y", "x")), ("edge", ("x", "y"))))], ROW), ROW)
        self.assertEqual(comes([(("a", ("x",)), (("b", ("x",)),))], ROW), ROW)
        self.assertEqual(comes([(("a", (1,)), (("edge", (5, 4)),))], ROW), ROW)

    def test_a_rule_that_uses_what_it_makes(self):
        paths = [("path", (one, other)) for one in range(1, 6) for other in range(one + 1, 6)]
        self.assertEqual(comes(PATH, ROW), ROW + paths)

    def test_many_rounds(self):
        row = [("edge", (number, number + 1)) for number in range(60)]
        paths = [("path", (one, other)) for one in range(61) for other in range(one + 1, 61)]
        self.assertEqual(comes(PATH, row), row + paths)
        from_first = [(("far", (0,)), (("edge", (0, 1)),)), (("far", ("y",)), (("far", ("x",)), ("edge", ("x", "y"))))]
        self.assertEqual(comes(from_first, row), row + [("far", (number,)) for number in range(61)])

    def test_numbers_in_rules(self):
        self.assertEqual(comes([(("a", ("x", 7)), (("edge", ("x", 3)),))], ROW), [("a", (2, 7))] + ROW)
        self.assertEqual(comes([(("edge", (5, "x")), (("edge", ("x", 2)),))], ROW), ROW + [("edge", (5, 1))])

    def test_a_first_atom_with_numbers_alone(self):
        self.assertEqual(comes([(("a", (-1, 1)), (("edge", ("x", "y")),))], ROW), [("a", (-1, 1))] + ROW)
        self.assertEqual(comes([(("a", (-1, 1)), (("edge", ("x", "x")),))], ROW), ROW)
        self.assertEqual(comes([(("a", (1,)), (("edge", (1, 2)),))], ROW), [("a", (1,))] + ROW)

    def test_what_is_told_rises_as_numbers(self):
        book = [("a", (-20,)), ("a", (3,)), ("a", (100,))]
        rules = [(("a", (20,)), (("a", (100,)),)), (("a", (-3,)), (("a", (3,)),))]
        self.assertEqual(comes(rules, book), [("a", (-20,)), ("a", (-3,)), ("a", (3,)), ("a", (20,)), ("a", (100,))])

    def test_numbers_of_many_figures(self):
        told = comes([(("b", ("x", -LONG)), (("a", ("x",)),))], [("a", (LONG,))])
        self.assertTrue(told == [("a", (LONG,)), ("b", (LONG, -LONG))])

    def test_as_the_words_say(self):
        for rules, book in CASES:
            told = comes(rules, book)
            self.assertIs(type(told), list)
            self.assertEqual(checked_book(told), told)
            for fact in book:
                self.assertIn(fact, told)
            for rule in rules:
                for fact in made_by_words(rule, told):
                    self.assertIn(fact, told)
            self.assertEqual(told, comes_by_words(rules, book))

    def test_every_pair_of_rules_of_a_stock(self):
        heads = [("r", ("x", "y")), ("r", ("y", "x")), ("s", ("x",)), ("s", (2,)), ("r", ("x", 0))]
        bodies = [
            (("r", ("x", "y")), ("s", ("x",))), (("r", ("x", "z")), ("r", ("z", "y"))), (("s", ("x",)), ("s", ("y",))),
        ]
        rules = [(head, atoms) for head in heads for atoms in bodies]
        book = [("r", (0, 1)), ("r", (1, 2)), ("s", (1,))]
        for pair in itertools.combinations(rules, 2):
            self.assertEqual(comes(list(pair), book), comes_by_words(pair, book), pair)

    def test_rows_that_nothing_asks_for_do_not_multiply(self):
        book = [("e", (0, number)) for number in range(300)]
        rule = (("a", ("x",)), tuple([("e", ("x", name)) for name in "pqrs"]))
        self.assertEqual(comes([rule], book), [("a", (0,))] + book)
        apart = (("a", ("x",)), (("e", ("x", 0)), ("e", ("p", "q")), ("e", ("r", "s")), ("e", ("t", "u"))))
        self.assertEqual(comes([apart], book), [("a", (0,))] + book)

    def test_eight_rules_and_rules_of_four_atoms(self):
        rules = [((name, ("x",)), (("n", ("x",)),) * 4) for name in "abcdefgh"]
        self.assertEqual(comes(rules, [("n", (1,))]), [(name, (1,)) for name in "abcdefghn"])

    def test_what_is_handed_in_stays_as_it_was(self):
        for rules, book in CASES:
            before = copy.deepcopy((rules, book))
            first = comes(rules, book)
            self.assertEqual((rules, book), before)
            second = comes(copy.deepcopy(rules), copy.deepcopy(book))
            self.assertEqual(first, second)
            self.assertIsNot(first, second)
            first.append(None)
            self.assertEqual(comes(rules, book), second)


class WhyTest(unittest.TestCase):
    def fits(self, rule, fact, facts):
        put = {}
        for atom, becoming in zip((rule[0],) + rule[1], [fact] + facts):
            if atom[0] != becoming[0] or len(atom[1]) != len(becoming[1]):
                return False
            for term, value in zip(atom[1], becoming[1]):
                wanted = put.setdefault(term, value) if isinstance(term, str) else term
                if wanted != value:
                    return False
        return len(facts) == len(rule[1])

    def walk(self, rules, book, fact):
        steps = why(rules, book, fact)
        self.assertIs(type(steps), list)
        ahead = []
        for step in steps:
            self.assertIs(type(step), tuple)
            made, number, facts = step
            self.assertIs(type(facts), list)
            if made in book:
                self.assertEqual((number, facts), (None, []))
            else:
                self.assertIs(type(number), int)
                self.assertTrue(0 <= number < len(rules))
                self.assertTrue(self.fits(rules[number], made, facts), step)
                for used in facts:
                    self.assertTrue(used in book or used in ahead, (steps, used))
            self.assertNotIn(made, ahead)
            ahead.append(made)
        self.assertEqual(ahead[-1], fact)
        for place, step in enumerate(steps[:-1]):
            self.assertTrue(any([step[0] in later[2] for later in steps[place + 1:]]), steps)
        return steps

    def test_a_fact_of_the_book(self):
        self.assertEqual(why([], ROW, ("edge", (1, 2))), [(("edge", (1, 2)), None, [])])
        self.assertEqual(why(PATH, ROW, ("edge", (4, 5))), [(("edge", (4, 5)), None, [])])
        both = ROW + [("path", (1, 2)), ("path", (1, 4))]
        for fact in both:
            self.assertEqual(why(PATH, both, fact), [(fact, None, [])])

    def test_a_fact_made_at_once(self):
        self.assertEqual(self.walk(PATH, ROW, ("path", (2, 3)))[-1], (("path", (2, 3)), 0, [("edge", (2, 3))]))
        rules = [(("a", ("y",)), (("edge", ("x", "y")), ("edge", ("y", 3))))]
        self.assertEqual(self.walk(rules, ROW, ("a", (2,)))[-1], (("a", (2,)), 0, [("edge", (1, 2)), ("edge", (2, 3))]))

    def test_a_fact_made_through_several_steps(self):
        steps = self.walk(PATH, ROW, ("path", (1, 5)))
        made = [step for step in steps if step[1] is not None]
        self.assertEqual([step[0] for step in made], [("path", (1, other)) for other in (2, 3, 4, 5)])
        self.assertEqual([step[1] for step in made], [0, 1, 1, 1])

    def test_facts_in_order_of_the_atoms(self):
        rules = [(("a", ("x",)), (("d", ("z",)), ("b", ("x", "y")), ("c", ("y", "z"))))]
        book = [("b", (1, 2)), ("c", (2, 3)), ("d", (3,))]
        self.assertEqual(self.walk(rules, book, ("a", (1,)))[-1][2], [("d", (3,)), ("b", (1, 2)), ("c", (2, 3))])
        rules = [(("a", ("x",)), (("b", ("p", "q")), ("d", ("z",)), ("c", ("y", "z")), ("b", ("x", "y"))))]
        facts = self.walk(rules, book, ("a", (1,)))[-1][2]
        self.assertEqual(facts, [("b", (1, 2)), ("d", (3,)), ("c", (2, 3)), ("b", (1, 2))])

    def test_facts_in_order_of_atoms_that_are_not_joined_in_order(self):
        atoms = (("a", ("x",)), ("b", ("z",)), ("c", ("x", "y")), ("d", ("y", "z")))
        book = [("a", (1,)), ("b", (3,)), ("c", (1, 2)), ("d", (2, 3))]
        for order in itertools.permutations(range(4)):
            rule = (("made", ("x", "z")), tuple([atoms[place] for place in order]))
            steps = self.walk([rule], book, ("made", (1, 3)))
            self.assertEqual(steps[-1], (("made", (1, 3)), 0, [book[place] for place in order]))

    def test_a_rule_that_uses_one_fact_twice(self):
        rules = [(("a", ("x",)), (("n", ("x",)),)), (("b", ("x", "y")), (("a", ("x",)), ("a", ("y",)), ("a", ("x",))))]
        steps = self.walk(rules, [("n", (1,))], ("b", (1, 1)))
        self.assertEqual(steps[-1], (("b", (1, 1)), 1, [("a", (1,)), ("a", (1,)), ("a", (1,))]))
        self.assertEqual(len([step for step in steps if step[0] == ("a", (1,))]), 1)

    def test_one_fact_used_by_several_steps(self):
        rules = [((name, ("x",)), ((other, ("x",)),)) for name, other in ("an", "ba", "ca")]
        rules.append((("d", ("x",)), (("b", ("x",)), ("c", ("x",)), ("a", ("x",)))))
        steps = self.walk(rules, [("n", (3,))], ("d", (3,)))
        self.assertEqual(len([step for step in steps if step[1] is not None]), 4)

    def test_a_fact_that_does_not_come(self):
        for fact in [("path", (2, 1)), ("path", (1, 1)), ("edge", (1, 3)), ("nowhere", (1,))]:
            self.assertIsNone(why(PATH, ROW, fact))
        for values in [(1,), (1, 2, 3), (1, 2, 3, 4)]:
            self.assertIsNone(why(PATH, ROW, ("path", values)))
            self.assertIsNone(why(PATH, ROW, ("edge", values)))
        self.assertIsNone(why([], [], ("a", (1,))))
        self.assertIsNone(why(PATH, [], ("path", (1, 2))))
        # Each would need the other one ahead.
        rules = [(("a", ("x",)), (("b", ("x",)),)), (("b", ("x",)), (("a", ("x",)),))]
        self.assertIsNone(why(rules, [("c", (1,))], ("a", (1,))))

    def test_true_and_false_are_no_numbers(self):
        self.assertIsNone(why([], [("a", (0,)), ("a", (1,))], ("a", (True,))))
        self.assertIsNone(why([], [("a", (0,)), ("a", (1,))], ("a", (False,))))

    def test_rules_that_go_round(self):
        rules = [((name, ("x",)), ((other, ("x",)),)) for name, other in ("ab", "ba", "ac")]
        self.walk(rules, [("c", (1,))], ("b", (1,)))
        self.walk(rules, [("c", (1,))], ("a", (1,)))
        ring = [("edge", (1, 2)), ("edge", (2, 3)), ("edge", (3, 1))]
        for fact in comes(PATH, ring):
            self.walk(PATH, ring, fact)

    def test_very_many_steps(self):
        row = [("edge", (number, number + 1)) for number in range(1100)]
        rules = [(("far", (0,)), (("edge", (0, 1)),)), (("far", ("y",)), (("edge", ("x", "y")), ("far", ("x",))))]
        steps = why(rules, row, ("far", (1100,)))
        made = [step[0] for step in steps if step[1] is not None]
        self.assertEqual(made, [("far", (number,)) for number in range(1101)])

    def test_each_fact_that_comes_and_some_that_do_not(self):
        for rules, book in CASES:
            told = comes(rules, book)
            for fact in told:
                self.walk(rules, book, fact)
                for other in [(fact[0], fact[1][::-1]), (fact[0], fact[1][:-1] + (77,)), (fact[0], fact[1][:-1])]:
                    if other not in told and other[1]:
                        self.assertIsNone(why(rules, book, other))

    def test_what_is_handed_in_stays_and_lists_are_new(self):
        rules, book, fact = copy.deepcopy(PATH), list(ROW), ("path", (1, 5))
        first = why(rules, book, fact)
        second = why(copy.deepcopy(rules), list(book), copy.deepcopy(fact))
        self.assertEqual(first, second)
        self.assertIsNot(first, second)
        first[-1][2].clear()
        first.clear()
        self.assertEqual(why(rules, book, fact), second)
        self.assertEqual((rules, book), (PATH, ROW))
        why([], book, ("edge", (1, 2)))[0][2].append(1)
        self.assertEqual(why([], book, ("edge", (1, 2))), [(("edge", (1, 2)), None, [])])


class RefusedTest(unittest.TestCase):
    GOOD = (("a", ("x",)), (("b", ("x", "y")),))
    BOOK = [("b", (1, 2)), ("c", (1,))]
    NO_RULES = [
        None, True, 0, 7, "rules", b"rules", 1.5, (), {}, {1, 2}, object(), list, (GOOD,), GOOD, {GOOD: 1},
    ]
    NO_RULE = [
        None, True, 7, "ab", [], (), {}, object(), list(GOOD), GOOD[:1], GOOD[1:], GOOD + (GOOD[1],),
        GOOD + (None,), GOOD[0], GOOD[1], (GOOD[1], GOOD[0]), (GOOD,),
    ]
    NO_ATOMS = [
        None, True, 7, "a", [], (), {}, object(), ["a", ("x",)], ("a",), (("x",),), ("a", ("x",), 1), ("a", ["x"]),
        ("a", ()), ("a", ("x",) * 5), ("A", ("x",)), ("", ("x",)), ("abcdefghi", ("x",)), (1, ("x",)), ("a", (True,)),
        ("a", (None,)), ("a", (1.0,)), ("a", ("X",)), ("a", ("",)), ("a", ([],)), ("a", ("abcdefghi",)),
        ("a", (("x",),)), (["a"], ("x",)),
    ]
    NO_BOOKS = [
        None, True, 7, "book", (), {}, object(), [("c", (2,)), ("c", (1,))], [("c", (1,)), ("c", (1,))],
        [("c", (True,))], [("c", (1,)), ("c", (1, 2))], [("C", (1,))], [["c", (1,)]], [None], [("c", ())],
        [("c", (1, 2, 3, 4, 5))],
    ]

    def refused(self, error, rules, book):
        self.assertRaises(error, comes, rules, book)
        self.assertRaises(error, why, rules, book, ("c", (1,)))
        self.assertRaises(error, why, rules, book, ("nowhere", (1,)))

    def no_rules(self, rules, book=BOOK):
        self.refused(NoRules, rules, book)

    def let_by(self, rules, book=BOOK):
        self.assertEqual(comes(rules, book), comes_by_words(rules, book))

    def test_no_list(self):
        for rules in self.NO_RULES:
            self.no_rules(rules)
            self.no_rules(rules, [])

    def test_how_many_rules(self):
        for many in range(9):
            self.let_by([self.GOOD] * many)
        for many in (9, 10, 100):
            self.no_rules([self.GOOD] * many)

    def test_a_rule_that_is_none(self):
        for rule in self.NO_RULE:
            self.no_rules([rule])
            self.no_rules([self.GOOD, rule])
            self.no_rules([rule, self.GOOD])

    def test_a_first_atom_that_is_none(self):
        for atom in self.NO_ATOMS:
            self.no_rules([(atom, (("b", ("x", "y")),))])

    def test_atoms_that_are_none(self):
        for atoms in [None, True, 7, "ab", [], [("b", ("x", "y"))], ("b", ("x", "y")), {}, object()]:
            self.no_rules([(("a", ("x",)), atoms)])
            self.no_rules([(("a", (1,)), atoms)])
        for atom in self.NO_ATOMS:
            self.no_rules([(("d", (1,)), (atom,))])
            self.no_rules([(("d", ("x",)), (("b", ("x", "y")), atom))])
            self.no_rules([(("d", ("x",)), (atom, ("b", ("x", "y"))))])

    def test_how_many_atoms(self):
        self.no_rules([(("a", (1,)), ())])
        for many in range(1, 5):
            self.let_by([(("a", ("x",)), (("b", ("x", "y")),) * many)])
        self.no_rules([(("a", ("x",)), (("b", ("x", "y")),) * 5)])
        self.no_rules([(("a", ("x",)), (("b", ("x", "y")),) * 6)])

    def test_a_stand_in_of_the_first_that_stands_in_none_of_the_others(self):
        self.no_rules([(("a", ("z",)), (("b", ("x", "y")),))])
        self.no_rules([(("a", ("x", "z")), (("b", ("x", "y")),))])
        self.no_rules([(("a", ("b",)), (("b", ("x", "y")),))])
        self.no_rules([(("a", ("x",)), (("b", (1, 2)),))])
        self.no_rules([self.GOOD, (("a", ("z",)), (("b", ("x", "y")),))])
        self.let_by([(("a", ("y",)), (("c", ("x",)), ("b", ("x", "y"))))])

    def test_another_number_of_terms(self):
        self.no_rules([(("d", ("x",)), (("d", ("x", "y")),))])
        self.no_rules([(("d", (1,)), (("e", ("x", "y")), ("e", ("x",))))])
        self.no_rules([(("d", (1,)), (("e", ("x",)),)), (("d", (1, 1)), (("e", ("x",)),))])
        self.no_rules([(("d", (1,)), (("e", ("x",)),)), (("f", (1,)), (("d", ("x", "x")),))])
        self.no_rules([(("d", (1,)), (("e", ("x",)),)), (("f", (1,)), (("g", ("x",)), ("e", ("x", "y"))))])

    def test_another_number_of_values_in_the_book(self):
        self.no_rules([(("a", ("x",)), (("b", ("x",)),))])
        self.no_rules([(("a", ("x",)), (("b", ("x", "y", "z")),))])
        self.no_rules([(("c", ("x", "y")), (("b", ("x", "y")),))])
        self.no_rules([(("a", ("x",)), (("a", ("x",)),)), (("a", ("x",)), (("c", ("x", "x")),))])
        self.let_by([(("a", ("x",)), (("b", ("x",)),))], [("c", (1,))])
        self.let_by([(("a", ("x",)), (("b", ("x",)),))], [])

    def test_no_book(self):
        for book in self.NO_BOOKS:
            self.refused(NoBook, [], book)
            self.refused(NoBook, [self.GOOD], book)

    def test_no_book_is_ahead_of_no_rules(self):
        for book in self.NO_BOOKS:
            for rules in self.NO_RULES + [[rule] for rule in self.NO_RULE]:
                self.refused(NoBook, rules, book)


if __name__ == "__main__":
    unittest.main()
