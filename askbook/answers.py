"""The answers of an asking in a book."""

from askbook.fits import all_joined, atom_fits, facts_by_name, head_rows, joining_order
from askbook.things import checked_asking, checked_book, stand_ins


def answers(asking, book):
    checked_asking(asking)
    facts_of = facts_by_name(checked_book(book))
    head = asking[0]
    atoms = asking[1]
    parts = [atom_fits(atoms[place], facts_of) for place in joining_order(atoms, [])]
    return head_rows(head, all_joined(parts, stand_ins(head)))
