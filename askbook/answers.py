"""The answers of an asking in a book."""

from askbook.things import checked_asking, checked_book, stand_ins, terms_of


# Rows of numbers, none twice, with a column for each of some stand-ins.
class Fits:
    def __init__(self, columns, rows):
        self.columns = columns
        self.rows = rows


def values_by_name(book):
    found = {}
    for fact in book:
        found.setdefault(fact[0], []).append(fact[1])
    return found


def row_put(terms, values):
    # None if nothing put for the stand-ins makes the terms these values; the
    # empty row says that terms without stand-ins are these values as they are.
    if len(terms) != len(values):
        return None
    put = {}
    for term, value in zip(terms, values):
        number = put.setdefault(term, value) if isinstance(term, str) else term
        if number != value:
            return None
    return tuple(put.values())


def atom_fits(terms, many_values):
    rows = [row_put(terms, values) for values in many_values]
    return Fits(stand_ins(terms), [row for row in rows if row is not None])


def picked(row, places):
    return tuple([row[place] for place in places])


def rows_by_places(rows, places):
    found = {}
    for row in rows:
        found.setdefault(picked(row, places), []).append(row)
    return found


def joined(one, other, needed):
    # Columns that nothing asks for any more are dropped at once, so that rows
    # that differ only there don't multiply with each further atom.
    shared = [name for name in one.columns if name in other.columns]
    both = one.columns + other.columns
    columns = [name for name in stand_ins(both) if name in needed]
    places = [both.index(name) for name in columns]
    shared_places = [one.columns.index(name) for name in shared]
    partners = rows_by_places(other.rows, [other.columns.index(name) for name in shared])
    found = {}
    for row in one.rows:
        for partner in partners.get(picked(row, shared_places), []):
            found[picked(row + partner, places)] = True
    return Fits(columns, list(found))


def joining_cost(atom, known):
    names = stand_ins(atom[1])
    fresh = [name for name in names if name not in known]
    stands_apart = len(fresh) == len(names)
    return (stands_apart, len(fresh))


def joining_order(atoms):
    # The order is free; an atom that hangs on what is known narrows the rows,
    # one that stands apart multiplies them.
    left = list(atoms)
    ordered = []
    while left:
        known = stand_ins(terms_of(ordered))
        costs = [joining_cost(atom, known) for atom in left]
        ordered.append(left.pop(costs.index(min(costs))))
    return ordered


def head_row(head, put):
    return tuple([put[term] if isinstance(term, str) else term for term in head])


def answers(asking, book):
    checked_asking(asking)
    values_of = values_by_name(checked_book(book))
    head = asking[0]
    atoms = joining_order(asking[1])
    fits = Fits([], [()])
    for place, atom in enumerate(atoms):
        needed = stand_ins(list(head) + terms_of(atoms[place + 1:]))
        fits = joined(fits, atom_fits(atom[1], values_of.get(atom[0], [])), needed)
    return sorted([head_row(head, dict(zip(fits.columns, row))) for row in fits.rows])
