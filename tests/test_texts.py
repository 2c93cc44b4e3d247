"""[1], [17] and the interface of askbook/texts.py."""

import itertools
import re
import unittest

from askbook.errors import AskError, NoText
from askbook.texts import read, shown

NINES = 10 ** 30 - 1  # the greatest number of thirty figures

WRITTEN = [
    ("ask() :- r(x).", ((), (("r", ("x",)),))),
    ("ask(x) :- r(x).", (("x",), (("r", ("x",)),))),
    ("ask(x, y) :- edge(x, y).", (("x", "y"), (("edge", ("x", "y")),))),
    ("ask(x, z) :- edge(x, y), edge(y, z), node(z).",
     (("x", "z"), (("edge", ("x", "y")), ("edge", ("y", "z")), ("node", ("z",))))),
    ("ask(a, a, 1, -1) :- r(a, 2, -3, b).", (("a", "a", 1, -1), (("r", ("a", 2, -3, "b")),))),
    ("ask(0) :- r(0).", ((0,), (("r", (0,)),))),
    ("ask(-7, 10) :- r(9), s(-10, 0).", ((-7, 10), (("r", (9,)), ("s", (-10, 0))))),
    ("ask(abcdefgh) :- ijklmnop(qrstuvwx, yz, abcdefgh).",
     (("abcdefgh",), (("ijklmnop", ("qrstuvwx", "yz", "abcdefgh")),))),
    ("ask(ask) :- ask(ask).", (("ask",), (("ask", ("ask",)),))),
    ("ask() :- a(x), b(x), c(x), d(x), e(x), f(x).", ((), tuple([(name, ("x",)) for name in "abcdef"]))),
    ("ask(x) :- r(x), r(x), r(x).", (("x",), (("r", ("x",)),) * 3)),
    (f"ask({NINES}, -{NINES}) :- r(-{NINES}), r({NINES}).", ((NINES, -NINES), (("r", (-NINES,)), ("r", (NINES,))))),
    (f"ask({10 ** 29}) :- r(-{10 ** 29}).", ((10 ** 29,), (("r", (-10 ** 29,)),))),
]
NO_TEXTS = [
    None, True, 0, 7, 1.5, b"ask() :- r(x).", [], ["ask() :- r(x)."], (), ("ask() :- r(x).",), {}, {"ask": 1}, object(),
    str, ((), (("r", ("x",)),)), ((),) * 9,
]

TERM = "(?:[a-z]{1,8}|0|-?[1-9][0-9]{0,29})"
ATOM = rf"[a-z]{{1,8}}\({TERM}(?:, {TERM}){{0,3}}\)"
ASKING = re.compile(rf"ask\((?:{TERM}(?:, {TERM}){{0,3}})?\) :- {ATOM}(?:, {ATOM}){{0,5}}\.")


def terms_by_words(text):
    terms = re.findall("[a-z]+|-?[0-9]+", text)
    return tuple([term if term.isalpha() else int(term) for term in terms])


def read_by_words(text):
    """What the text reads as by [17] and [3], None if as nothing."""
    if not ASKING.fullmatch(text):
        return None
    head, body = text[3:].split(" :- ")
    atoms = tuple([(name, terms_by_words(terms)) for name, terms in re.findall(r"([a-z]+)\(([^)]*)\)", body)])
    lengths = {}
    for name, terms in atoms:
        lengths.setdefault(name, set()).add(len(terms))
    standing = {term for name, terms in atoms for term in terms}
    head = terms_by_words(head)
    if any(len(many) > 1 for many in lengths.values()):
        return None
    if not all(term in standing for term in head if isinstance(term, str)):
        return None
    return (head, atoms)


def all_numbers(asking):
    head, atoms = asking
    return [term for terms in [head] + [atom[1] for atom in atoms] for term in terms if not isinstance(term, str)]


class ShownTest(unittest.TestCase):
    def test_what_is_written(self):
        for text, asking in WRITTEN:
            told = shown(asking)
            self.assertIs(type(told), str)
            self.assertEqual(told, text)

    def test_heads_of_none_to_four_terms(self):
        atoms = (("r", ("x", "y")),)
        for terms, text in [((), ""), (("x",), "x"), (("y", "x"), "y, x"), (("x", 1, "x"), "x, 1, x"),
                            ((-1, 0, "y", 22), "-1, 0, y, 22")]:
            self.assertEqual(shown((terms, atoms)), f"ask({text}) :- r(x, y).")

    def test_numbers_of_one_to_thirty_figures(self):
        for figures in range(1, 31):
            for number in (10 ** (figures - 1), 10 ** figures - 1):
                self.assertEqual(shown(((number,), (("r", (-number,)),))), f"ask({number}) :- r(-{number}).")

    def test_a_number_somewhat_beyond_is_not_refused(self):
        self.assertEqual(shown(((), (("r", (10 ** 30, -10 ** 31)),))), f"ask() :- r(1{'0' * 30}, -1{'0' * 31}).")

    def test_asked_twice(self):
        for text, asking in WRITTEN:
            self.assertEqual(shown(asking), shown(asking))


class ReadTest(unittest.TestCase):
    def refused(self, text):
        with self.assertRaises(NoText) as taken:
            read(text)
        self.assertIs(type(taken.exception), NoText)
        self.assertIsInstance(taken.exception, AskError)

    def as_the_words_say(self, text):
        expected = read_by_words(text)
        if expected is None:
            self.refused(text)
        else:
            self.assertEqual(read(text), expected, text)

    def test_what_is_written_is_read_back(self):
        for text, asking in WRITTEN:
            told = read(text)
            self.assertEqual(told, asking)
            self.assertEqual([type(number) for number in all_numbers(told)], [int] * len(all_numbers(asking)))
            self.assertEqual(read(shown(asking)), asking)
            self.assertEqual(shown(told), text)
            self.assertEqual(read_by_words(text), asking)

    def test_every_asking_of_a_stock_is_read_back(self):
        atoms = [("r", ("x", 0)), ("r", (-5, "y")), ("s", ("y",)), ("long", ("z", "y", "x", 100)), ("s", (7,))]
        for many in (1, 2, 3):
            for some in itertools.product(atoms, repeat=many):
                names = sorted({term for name, terms in some for term in terms if isinstance(term, str)})
                for head in [(), tuple(names), tuple(names[:1]) + (3, -3), (0,)]:
                    self.assertEqual(read(shown((head, some))), (head, some))

    def test_what_is_no_text(self):
        for thing in NO_TEXTS:
            self.refused(thing)

    def test_a_sign_more_at_any_place(self):
        for text, asking in WRITTEN:
            for place in range(len(text) + 1):
                for sign in " ,().:\n\t\r\x0b\x0c\0_;[]+\"'\\/*\u00a0\u2003\ufeff":
                    self.refused(text[:place] + sign + text[place:])

    def test_a_sign_less_at_any_place(self):
        for text, asking in WRITTEN:
            for place, sign in enumerate(text):
                if sign in " ,().:":
                    self.refused(text[:place] + text[place + 1:])

    def test_every_text_that_lies_next_to_one_written(self):
        signs = "ax019-, ().:\nA_k\u0661\u00e4"
        for text, asking in WRITTEN[:7]:
            for place in range(len(text)):
                self.as_the_words_say(text[:place] + text[place + 1:])
                self.as_the_words_say(text[:place] + text[place] * 2 + text[place + 1:])
                self.as_the_words_say(text[:place] + text[place + 1:place + 2] + text[place] + text[place + 2:])
                for sign in signs:
                    self.as_the_words_say(text[:place] + sign + text[place:])
                    self.as_the_words_say(text[:place] + sign + text[place + 1:])

    def test_every_text_cut_off(self):
        for text, asking in WRITTEN:
            for place in range(len(text)):
                self.refused(text[:place])
                if place:
                    self.refused(text[place:])

    def test_text_ahead_and_behind(self):
        mores = ["\n", " ", ".", "x", "ask() :- r(x).", "\n\n", "\r\n", ", s(x)", ", s(x).", ":-", "\x85", "\u2028"]
        for more in mores:
            self.refused("ask() :- r(x)." + more)
            self.refused(more + "ask() :- r(x).")

    def test_line_ends_within(self):
        for text in ["ask()\n:- r(x).", "ask() :-\nr(x).", "ask() :- r(x),\ns(x).", "ask() :- r(x, \ny).",
                     "ask() :- r(x\n).", "ask(x\n) :- r(x).", "ask(\nx) :- r(x).", "ask() :- r\n(x).",
                     "ask() :- r(x)\n."]:
            self.refused(text)

    def test_another_word_than_ask(self):
        for word in ["", "as", "asks", "Ask", "ASK", "aks", "r", "ask ", " ask", "ask(", "\u0430sk", "asK", "a", "1"]:
            self.refused(word + "(x) :- r(x).")
        self.refused("x) :- r(x).")

    def test_capitals_underscores_and_other_alphabets(self):
        for word in ["X", "xY", "x_y", "_", "\u00e4", "x\u00e4", "\u0430", "\u03b1", "\u0131", "\u017f", "x1", "1x",
                     "x-y", "\uff41", "a\u0301", "\u00df", "\u00aa"]:
            self.refused(f"ask() :- r({word}).")
            self.refused(f"ask() :- {word}(x).")
            self.refused(f"ask({word}) :- r({word}).")

    def test_words_of_eight_and_of_nine_letters(self):
        self.assertEqual(read("ask(abcdefgh) :- hgfedcba(abcdefgh)."), (("abcdefgh",), (("hgfedcba", ("abcdefgh",)),)))
        self.refused("ask() :- abcdefghi(x).")
        self.refused("ask() :- r(abcdefghi).")
        self.refused("ask(abcdefghi) :- r(abcdefghi).")
        self.refused("ask() :- (x).")

    def test_numbers_that_are_none(self):
        for number in ["00", "-0", "-00", "01", "-01", "+1", "-", "--1", "+0", "", "1.0", "1.", ".1", "1e3", "1_0",
                       " 1", "1 ", "- 1", "0x1", "0b1", "1-", "1-1", "000", "0" * 30, "0" * 31, "\u0661", "\u00b2",
                       "\u0967", "\uff11", "1\u0661", "-\u0661", "\u22121", "\u20131", "\u2460", "1\n", "None", "True"]:
            self.refused(f"ask() :- r({number}).")
            self.refused(f"ask() :- r(x, {number}).")
            self.refused(f"ask() :- r({number}, x).")
            if number:
                self.refused(f"ask({number}) :- r(x).")
            self.refused(f"ask(x, {number}) :- r(x).")

    def test_thirty_figures_and_one_more(self):
        for figures in ["1" + "0" * 29, "9" * 30, "123456789012345678901234567890"]:
            for number in [figures, "-" + figures]:
                self.assertEqual(read(f"ask({number}) :- r({number})."), ((int(number),), (("r", (int(number),)),)))
                self.refused(f"ask({number}0) :- r(x).")
                self.refused(f"ask() :- r({number}0).")
        for many in (31, 32, 4300, 4301, 5000, 20000):
            self.refused(f"ask() :- r({'1' * many}).")
            self.refused(f"ask() :- r(-{'1' * many}).")
            self.refused(f"ask({'1' * many}) :- r(x).")

    def test_what_would_be_no_asking(self):
        for text in [
            "ask(x) :- r(y).", "ask(x, y) :- r(x), s(x).", "ask(r) :- r(x).", "ask() :- .", "ask() :- ", "ask().",
            "ask() :-.", "ask() :- r().", "ask() :- r(x), s().", "ask() :- r.", "ask() :- r(v, w, x, y, z).",
            "ask(x, x, x, x, x) :- r(x).", "ask(1, 2, 3, 4, 5) :- r(x).", "ask() :- r(x), r(x, y).",
            "ask() :- r(x, y), s(x), r(1, 2, 3).", "ask() :- " + ", ".join(["r(x)"] * 7) + ".", "ask(x).", "ask(x)",
            "ask() :- r(x), .", "ask() :- , r(x).", "ask() :- r(x),, s(x).", "ask(,) :- r(x).", "ask(, ) :- r(x).",
            "ask(x, ) :- r(x).", "ask() :- r(x, ).", "ask() :- r(, x).", "ask() :- r((x)).", "ask(()) :- r(x).",
            "ask() :- r(s(x)).", "ask() :- r(x) :- s(x).", "ask() :- r(x). ask() :- r(x).", "ask(x) :- r(x)) :- r(x).",
            "ask()) :- r(x).", "ask() :- ) :- r(x).",
        ]:
            self.refused(text)
            self.assertIsNone(read_by_words(text))

    def test_the_most_that_is_let_by(self):
        text = "ask(a, b, c, d) :- " + ", ".join(["r(a, b, c, d)"] * 6) + "."
        self.assertEqual(read(text), (tuple("abcd"), (("r", tuple("abcd")),) * 6))

    def test_blanks_are_as_told(self):
        for text in [
            "ask():- r(x).", "ask() :-r(x).", "ask():-r(x).", "ask()  :- r(x).", "ask() :-  r(x).", "ask() : - r(x).",
            "ask( ) :- r(x).", "ask() :- r( x).", "ask() :- r(x ).", "ask() :- r (x).", "ask () :- r(x).",
            "ask() :- r(x) .", "ask() :- r(x,y).", "ask() :- r(x ,y).", "ask() :- r(x , y).", "ask() :- r(x,  y).",
            "ask() :- r(x),s(x).", "ask() :- r(x) , s(x).", "ask() :- r(x),  s(x).", "ask(x,y) :- r(x, y).",
            "ask()\t:- r(x).", "ask() :- r(x,\ty).", "ask() :- r(x,\u00a0y).", "", " ", ".", "ask", "ask(", "ask)",
            ").", "ask(.", "ask(). ", "ask() r(x).", "ask() <- r(x).", "ask() : r(x).", "ask() - r(x).",
            "ask() -: r(x).",
        ]:
            self.refused(text)

    def test_asked_twice(self):
        for text, asking in WRITTEN:
            self.assertEqual(read(text), read("".join(list(text))))


if __name__ == "__main__":
    unittest.main()
