"""What fits atoms in some facts, or parts in a table, and how it is joined."""

from askbook.puts import put_further, put_in
from askbook.things import stand_ins


# Rows of numbers with a column for each of some stand-ins (or columns of a
# table): a dict that has for each row facts that show it, one for each atom
# joined, in order of joining.
class Fits:
    def __init__(self, columns, rows):
        self.columns = columns
        self.rows = rows


def facts_by_name(facts):
    found = {}
    for fact in facts:
        found.setdefault(fact[0], []).append(fact)
    return found


def atom_fits(atom, facts_of):
    terms = atom[1]
    rows = {}
    for fact in facts_of.get(atom[0], []):
        put = put_further({}, terms, fact[1])
        if put is not None:
            rows[tuple(put.values())] = (fact,)
    return Fits(stand_ins(terms), rows)


def picked(row, places):
    return tuple([row[place] for place in places])


def places_of(names, columns):
    return [columns.index(name) for name in names]


def shared_columns(one, other):
    return [name for name in one.columns if name in other.columns]


def narrowed(fits, names):
    columns = [name for name in fits.columns if name in names]
    if columns == fits.columns:
        return fits
    places = places_of(columns, fits.columns)
    rows = {}
    for row, shown in fits.rows.items():
        rows.setdefault(picked(row, places), shown)
    return Fits(columns, rows)


def rows_by_columns(fits, names):
    places = places_of(names, fits.columns)
    found = {}
    for row in fits.rows:
        found.setdefault(picked(row, places), []).append(row)
    return found


def joined(one, other, needed):
    # Columns that nothing asks for any more are dropped ahead of the joining
    # or with it, so that rows that differ only there don't multiply.
    shared = shared_columns(one, other)
    left = narrowed(one, needed + shared)
    right = narrowed(other, needed + shared)
    both = left.columns + right.columns
    once = left.columns + [name for name in right.columns if name not in shared]
    columns = [name for name in once if name in needed]
    places = places_of(columns, both)
    shared_places = places_of(shared, left.columns)
    partners = rows_by_columns(right, shared)
    rows = {}
    for row, shown in left.rows.items():
        for partner in partners.get(picked(row, shared_places), []):
            rows.setdefault(picked(row + partner, places), shown + right.rows[partner])
    return Fits(columns, rows)


def all_joined(parts, wanted):
    fits = Fits([], {(): ()})
    for place, part in enumerate(parts):
        needed = list(wanted)
        for later in parts[place + 1:]:
            needed.extend(later.columns)
        fits = joined(fits, part, needed)
    return fits


def kept(one, other):
    # Looked up, not joined: a row is kept once, however many rows it fits.
    shared = shared_columns(one, other)
    places = places_of(shared, one.columns)
    partners = rows_by_columns(other, shared)
    rows = {}
    for row, shown in one.rows.items():
        if picked(row, places) in partners:
            rows[row] = shown
    return Fits(one.columns, rows)


def joining_cost(part, known):
    fresh = [name for name in part.columns if name not in known]
    stands_apart = len(fresh) == len(part.columns)
    return (stands_apart, len(fresh))


def joining_order(parts, begun):
    # Places of parts, those begun with ahead. The order is free; a part that
    # hangs on what is known narrows the rows, one that stands apart multiplies them.
    order = list(begun)
    left = [place for place in range(len(parts)) if place not in order]
    while left:
        known = []
        for place in order:
            known.extend(parts[place].columns)
        costs = [joining_cost(parts[place], known) for place in left]
        order.append(left.pop(costs.index(min(costs))))
    return order


def joined_freely(parts, wanted):
    return all_joined([parts[place] for place in joining_order(parts, [])], wanted)


def head_rows(head, fits):
    narrow = narrowed(fits, stand_ins(head))
    return sorted([put_in(head, dict(zip(narrow.columns, row))) for row in narrow.rows])
