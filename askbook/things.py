"""What a book is and what an asking is, and the refusal of what is none."""

from askbook.errors import NoAsking, NoBook

LETTERS = "abcdefghijklmnopqrstuvwxyz"


def is_number(thing):
    # Python counts True and False among its whole numbers; here they are none.
    return isinstance(thing, int) and not isinstance(thing, bool)


def is_word(thing):
    # Names and stand-ins are words; islower would let letters beyond a to z pass.
    return isinstance(thing, str) and 1 <= len(thing) <= 8 and all([sign in LETTERS for sign in thing])


def is_term(thing):
    return is_word(thing) or is_number(thing)


def is_tuple_of(thing, least, most, is_part):
    if not isinstance(thing, tuple) or not least <= len(thing) <= most:
        return False
    return all([is_part(part) for part in thing])


def is_pair(thing):
    return isinstance(thing, tuple) and len(thing) == 2


def is_fact(thing):
    return is_pair(thing) and is_word(thing[0]) and is_tuple_of(thing[1], 1, 4, is_number)


def is_atom(thing):
    return is_pair(thing) and is_word(thing[0]) and is_tuple_of(thing[1], 1, 4, is_term)


def are_rising(things):
    return all([things[place] < things[place + 1] for place in range(len(things) - 1)])


def are_of_one_length(named):
    # For facts and atoms alike: of one name, equally many values or terms.
    lengths = {}
    for thing in named:
        if lengths.setdefault(thing[0], len(thing[1])) != len(thing[1]):
            return False
    return True


def stand_ins(terms):
    # A dict, not a set, since the order of their first standing counts.
    found = {}
    for term in terms:
        if isinstance(term, str):
            found[term] = True
    return list(found)


def terms_of(atoms):
    terms = []
    for atom in atoms:
        terms.extend(atom[1])
    return terms


def are_standing(terms, atoms):
    standing = stand_ins(terms_of(atoms))
    return all([name in standing for name in stand_ins(terms)])


def checked_book(book):
    if not isinstance(book, list) or not all([is_fact(fact) for fact in book]):
        raise NoBook("a book is a list of facts")
    if not are_rising(book):
        raise NoBook("the facts of a book are rising, none twice")
    if not are_of_one_length(book):
        raise NoBook("facts of one name have equally many values")
    return list(book)


def checked_asking(asking):
    if not is_pair(asking):
        raise NoAsking("an asking is a tuple of a head and atoms")
    head = asking[0]
    atoms = asking[1]
    if not is_tuple_of(head, 0, 4, is_term):
        raise NoAsking("a head is a tuple of at most 4 terms")
    if not is_tuple_of(atoms, 1, 6, is_atom):
        raise NoAsking("an asking has a tuple of 1 to 6 atoms")
    if not are_of_one_length(atoms):
        raise NoAsking("atoms of one name have equally many terms")
    if not are_standing(head, atoms):
        raise NoAsking("each stand-in of the head stands in an atom")
    return asking
