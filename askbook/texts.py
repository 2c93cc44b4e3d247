"""Askings written as texts, and read back."""

from askbook.errors import NoAsking, NoText
from askbook.things import checked_asking, is_word

FIGURES = "0123456789"


def shown_terms(terms):
    return ", ".join([str(term) for term in terms])


def shown_atom(atom):
    name = atom[0]
    terms = shown_terms(atom[1])
    return f"{name}({terms})"


def shown(asking):
    head = shown_terms(asking[0])
    atoms = ", ".join([shown_atom(atom) for atom in asking[1]])
    return f"ask({head}) :- {atoms}."


def is_shown_number(text):
    # Asked sign by sign: int would also read blanks, underscores and figures of other alphabets.
    figures = text[1:] if text.startswith("-") else text
    if not 1 <= len(figures) <= 30 or not all([sign in FIGURES for sign in figures]):
        return False
    return text == "0" or not figures.startswith("0")


def read_term(text):
    if is_word(text):
        return text
    if is_shown_number(text):
        return int(text)
    raise NoText("a term is a stand-in or a number of at most 30 figures")


def read_terms(text):
    return tuple([read_term(part) for part in text.split(", ")])


def read_atom(text):
    parted = text.partition("(")
    return (parted[0], read_terms(parted[2]))


def read(text):
    if not isinstance(text, str) or not text.startswith("ask(") or not text.endswith(")."):
        raise NoText("an asking is written as ask(TERMS) :- ATOM, ATOM.")
    parted = text[len("ask("):-len(").")].partition(") :- ")
    head = read_terms(parted[0]) if parted[0] else ()
    atoms = tuple([read_atom(part) for part in parted[2].split("), ")])
    try:
        return checked_asking((head, atoms))
    except NoAsking:
        raise NoText("what is written is no asking") from None
