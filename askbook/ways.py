"""Whether an asking is within another one: a way that shows it, or a book where it is not."""

from askbook.errors import Unlike
from askbook.puts import put_further, put_in
from askbook.things import checked_asking, stand_ins, terms_of


def found_way(atoms, targets, put):
    # What makes each of the atoms one of the targets, beside what is put; None if nothing does.
    if not atoms:
        return put
    name = atoms[0][0]
    for target in targets:
        further = put_further(put, atoms[0][1], target[1]) if target[0] == name else None
        whole = None if further is None else found_way(atoms[1:], targets, further)
        if whole is not None:
            return whole
    return None


def way_put(one, other):
    put = put_further({}, other[0], one[0])
    return None if put is None else found_way(other[1], one[1], put)


def numbers_of(asking):
    return [term for term in list(asking[0]) + terms_of(asking[1]) if not isinstance(term, str)]


def numbers_for_stand_ins(one, other):
    # Numbers that stand in neither asking: so whatever the other one says of
    # them it would say of the stand-ins too, and the book would be a way.
    least = max(numbers_of(one) + numbers_of(other), default=0) + 1
    return dict([(name, least + place) for place, name in enumerate(stand_ins(terms_of(one[1])))])


def book_against(one, other):
    put = numbers_for_stand_ins(one, other)
    facts = {}
    for atom in one[1]:
        facts[(atom[0], put_in(atom[1], put))] = True
    return ("book", sorted(facts), put_in(one[0], put))


def within(one, other):
    checked_asking(one)
    checked_asking(other)
    if len(one[0]) != len(other[0]):
        raise Unlike("the heads have unlike many terms")
    put = way_put(one, other)
    if put is None:
        return book_against(one, other)
    return ("way", [(name, put[name]) for name in stand_ins(terms_of(other[1]))])


def alike(one, other):
    return within(one, other)[0] == "way" and within(other, one)[0] == "way"
