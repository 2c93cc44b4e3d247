"""[1] over the whole program: the interface as it stands, and what holds of every function of it."""

import copy
import importlib
import inspect
import unittest

from askbook.errors import AskError, NoAsking, NoBonds, NoBook, NoColumns, NoRules, NoText, NoTree, Unlike

BOOK = [("edge", (1, 2)), ("edge", (2, 3)), ("edge", (3, 1)), ("node", (3,))]
PATHS = (("x", "z"), (("edge", ("x", "y")), ("edge", ("y", "z"))))
LOOPS = (("x", "x"), (("edge", ("x", "x")),))
RING = (("x",), (("edge", ("x", "y")), ("edge", ("y", "z")), ("edge", ("z", "x")), ("node", ("x",))))
TWICE = (("x",), (("edge", ("x", "y")), ("edge", ("x", "z"))))
RULES = [(("back", ("y", "x")), (("edge", ("x", "y")),)),
         (("both", ("x",)), (("edge", ("x", "y")), ("back", ("x", "z"))))]
BONDS = [((0,), (1,)), ((1,), (2,)), ((), (4,))]
TABLE = [(2, 1, 1), (1, 1, 2), (2, 1, 1)]

# For each function its arguments by name, the refusals it tells in order, and things to hand in.
INTERFACE = {
    "things.checked_book": (["book"], [NoBook], [([],), (BOOK,)]),
    "things.checked_asking": (["asking"], [NoAsking], [(PATHS,), (RING,)]),
    "answers.answers": (["asking", "book"], [NoAsking, NoBook], [(PATHS, BOOK), (RING, BOOK), (PATHS, [])]),
    "ways.within": (["one", "other"], [NoAsking, Unlike], [(PATHS, LOOPS), (LOOPS, PATHS), (PATHS, PATHS)]),
    "ways.alike": (["one", "other"], [NoAsking, Unlike], [(PATHS, LOOPS), (LOOPS, LOOPS)]),
    "leans.needless": (["asking", "place"], [NoAsking], [(TWICE, 0), (PATHS, 1)]),
    "leans.lean": (["asking"], [NoAsking], [(TWICE,), (PATHS,)]),
    "trees.tree": (["asking"], [NoAsking], [(PATHS,), (RING,)]),
    "trees.by_tree": (["asking", "book"], [NoAsking, NoBook, NoTree], [(PATHS, BOOK), (TWICE, BOOK)]),
    "rules.comes": (["rules", "book"], [NoBook, NoRules], [(RULES, BOOK), ([], BOOK), (RULES, [])]),
    "rules.why": (["rules", "book", "fact"], [NoBook, NoRules], [
        (RULES, BOOK, ("both", (2,))), (RULES, BOOK, BOOK[0]), (RULES, BOOK, ("both", (7,)))]),
    "bonds.keeps": (["table", "bond"], [], [(TABLE, ((0,), (1,))), (TABLE, ((1,), (0,)))]),
    "bonds.span": (["bonds", "many", "columns"], [NoBonds, NoColumns], [(BONDS, 5, (0,)), ([], 5, ())]),
    "bonds.follows": (["bonds", "many", "bond"], [NoBonds, NoColumns], [
        (BONDS, 5, ((0,), (2,))), (BONDS, 5, ((2,), (0,))), ([], 1, ((), ()))]),
    "keys.keys": (["bonds", "many", "columns"], [NoBonds, NoColumns], [(BONDS, 5, (0, 1, 2, 3, 4)), ([], 2, ())]),
    "keys.lean_bonds": (["bonds", "many"], [NoBonds], [(BONDS, 5), (BONDS[:2] + BONDS[:2], 3), ([], 1)]),
    "parts.put_together": (["table", "parts"], [], [(TABLE, [(0, 1), (2,)]), (TABLE, [(0, 1, 2)]), ([], [(0,)])]),
    "parts.sound": (["bonds", "many", "parts"], [NoBonds, NoColumns], [
        (BONDS, 5, [(0, 1, 2, 3, 4)]), (BONDS, 5, [(0, 1), (1, 2), (2, 3, 4)])]),
    "parts.settled": (["bonds", "many", "columns"], [NoBonds, NoColumns], [(BONDS, 5, (0, 1)), (BONDS, 5, (0, 1, 2))]),
    "parts.cut": (["bonds", "many"], [NoBonds], [(BONDS, 5), ([], 3)]),
    "texts.shown": (["asking"], [], [(PATHS,), (RING,)]),
    "texts.read": (["text"], [NoText], [("ask(x, 1) :- edge(x, -2), node(x).",)]),
}
# Things that are neither book nor asking, rules, bonds, columns, parts or text of an asking.
NOTHING = [
    None, True, False, 0, 9, -1, 10 ** 5000, 1.5, "", "x", "ask(x)", b"ask() :- r(x).", {}, {1: 2}, {1, 2}, object(),
    list, [None], [[]], [()], [1], [True], ["x"], [("x",)], [("x", [1])], [(1, 2)], (None,), ((),), ((), (), ()),
    (((),),), ([], []), ("x", "y"), (("x",), ()), ((((((),),),),),), [[((0,), (1,))]], range(3), Ellipsis,
]


def function(name):
    module, own = name.split(".")
    return getattr(importlib.import_module("askbook." + module), own)


def lists_in(thing):
    """All lists that stand in the thing, at whatever depth."""
    found = [thing] if isinstance(thing, list) else []
    if isinstance(thing, (list, tuple)):
        for part in thing:
            found.extend(lists_in(part))
    return found


def each_call():
    for name, (arguments, refusals, calls) in INTERFACE.items():
        for handed in calls:
            yield name, function(name), handed


class WholeTest(unittest.TestCase):
    def test_names_and_arguments(self):
        for name, (arguments, refusals, calls) in INTERFACE.items():
            parameters = inspect.signature(function(name)).parameters
            self.assertEqual(list(parameters), arguments, name)
            for handed in calls:
                told = function(name)(**dict(zip(arguments, handed)))
                self.assertEqual(told, function(name)(*handed), name)

    def test_nothing_that_is_handed_in_is_changed(self):
        for name, ask, handed in each_call():
            before = copy.deepcopy(handed)
            ask(*handed)
            self.assertEqual(handed, before, name)

    def test_lists_that_are_told_are_new_ones_each_time(self):
        for name, ask, handed in each_call():
            first, second = ask(*handed), ask(*handed)
            told = [id(thing) for thing in lists_in(first)]
            others = [id(thing) for thing in lists_in(handed) + lists_in(second)]
            self.assertEqual(set(told) & set(others), set(), name)
            self.assertEqual(len(set(told)), len(told), name)

    def test_what_is_done_with_a_told_list_changes_no_later_answer(self):
        for name, ask, handed in each_call():
            before = copy.deepcopy(ask(*handed))
            for thing in lists_in(ask(*handed)):
                thing.append("more")
            self.assertEqual(ask(*handed), before, name)

    def test_equal_things_give_equal_answers(self):
        for name, ask, handed in each_call():
            self.assertEqual(ask(*handed), ask(*copy.deepcopy(handed)), name)
            self.assertEqual(repr(ask(*handed)), repr(ask(*copy.deepcopy(handed))), name)

    def test_things_of_any_kind_are_refused_where_a_refusal_is_told(self):
        for name, (arguments, refusals, calls) in INTERFACE.items():
            refused = [place for place, own in enumerate(arguments) if refusals and own not in ("place", "fact")]
            for place in refused:
                for thing in NOTHING:
                    handed = list(calls[0])
                    handed[place] = thing
                    with self.subTest(name=name, argument=arguments[place]):
                        with self.assertRaises(AskError) as taken:
                            function(name)(*handed)
                        self.assertIn(type(taken.exception), refusals)

    def test_where_several_refusals_fit_it_is_the_one_named_first(self):
        for name, (arguments, refusals, calls) in INTERFACE.items():
            for thing in [None, True, "x", object(), [None], {}, 1.5]:
                if refusals:
                    with self.assertRaises(refusals[0]):
                        function(name)(*[thing for own in arguments])


if __name__ == "__main__":
    unittest.main()
