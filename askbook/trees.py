"""The atoms of an asking as a tree, or the knot in them, and answers by a tree."""

from askbook.errors import NoTree
from askbook.fits import atom_fits, facts_by_name, head_rows, joined, kept
from askbook.things import checked_asking, checked_book, stand_ins, terms_of


def taken_by(atoms, left, place):
    # The place of an atom by which this one may be taken off from those left, None if there is none.
    others = [other for other in left if other != place]
    elsewhere = stand_ins(terms_of([atoms[other] for other in others]))
    shared = [name for name in stand_ins(atoms[place][1]) if name in elsewhere]
    for other in others:
        if all([name in atoms[other][1] for name in shared]):
            return other
    return None


def next_taking(atoms, left):
    for place in left:
        other = taken_by(atoms, left, place)
        if other is not None:
            return (place, other)
    return None


def takings(atoms):
    # Whichever may be taken off can go first: whether more than one is left does not hang on it.
    left = list(range(len(atoms)))
    taken = []
    taking = next_taking(atoms, left)
    while taking is not None:
        taken.append(taking)
        left.remove(taking[0])
        taking = next_taking(atoms, left)
    return (taken, left)


def tree(asking):
    checked_asking(asking)
    parted = takings(asking[1])
    taken = parted[0]
    left = parted[1]
    if len(left) > 1:
        return ("knot", taken, left)
    above = [None] * len(asking[1])
    for place, other in taken:
        above[place] = other
    return ("tree", above)


def kept_by_tree(fits, taken):
    # Kept is what fits all below it, then what fits all above it too, so that
    # only what is part of an answer is joined.
    whole = list(fits)
    for place, other in taken:
        whole[other] = kept(whole[other], whole[place])
    for place, other in reversed(taken):
        whole[place] = kept(whole[place], whole[other])
    return whole


def joined_by_tree(atoms, fits, taken, wanted):
    # One behind the other each atom's rows go over to the atom above it; the last one has all.
    whole = list(fits)
    gone = []
    for place, other in taken:
        gone.append(place)
        later = [atom for at, atom in enumerate(atoms) if at != other and at not in gone]
        whole[other] = joined(whole[other], whole[place], wanted + stand_ins(terms_of(later)))
    return whole


def by_tree(asking, book):
    checked_asking(asking)
    facts_of = facts_by_name(checked_book(book))
    head = asking[0]
    atoms = asking[1]
    parted = takings(atoms)
    taken = parted[0]
    left = parted[1]
    if len(left) > 1:
        raise NoTree("the atoms are a knot")
    fits = kept_by_tree([atom_fits(atom, facts_of) for atom in atoms], taken)
    return head_rows(head, joined_by_tree(atoms, fits, taken, stand_ins(head))[left[0]])
