"""The answers of an asking in a book."""

from askbook.fits import atom_fits, facts_by_name, head_rows, joined_freely
from askbook.things import checked_asking, checked_book, stand_ins


def answers(asking, book):
    checked_asking(asking)
    facts_of = facts_by_name(checked_book(book))
    head = asking[0]
    parts = [atom_fits(atom, facts_of) for atom in asking[1]]
    return head_rows(head, joined_freely(parts, stand_ins(head)))
