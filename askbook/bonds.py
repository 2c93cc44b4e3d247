"""Bonds of columns: what keeps them, what hangs on what by them, and what follows from them."""

from askbook.errors import NoBonds, NoColumns
from askbook.fits import picked
from askbook.things import are_rising, is_number, is_pair, is_tuple_of


def is_columns(thing, many):
    return is_tuple_of(thing, 0, many, lambda part: is_number(part) and 0 <= part < many) and are_rising(thing)


def is_bond(thing, many):
    return is_pair(thing) and is_columns(thing[0], many) and is_columns(thing[1], many)


def checked_bonds(bonds, many):
    if not is_number(many) or not 1 <= many <= 6:
        raise NoBonds("a table has 1 to 6 columns")
    if not isinstance(bonds, list) or len(bonds) > 10:
        raise NoBonds("bonds are a list of at most 10")
    if not all([is_bond(bond, many) for bond in bonds]):
        raise NoBonds("a bond is a tuple of two rising tuples of columns")
    return bonds


def checked_columns(columns, many):
    if not is_columns(columns, many):
        raise NoColumns("columns are a rising tuple of numbers from 0 on, below how many there are")
    return columns


def checked_bond(bond, many):
    # Asked after, not handed in as one of the bonds: so it is its sides that are refused.
    if not is_bond(bond, many):
        raise NoColumns("a bond has two sides, each a rising tuple of columns")
    return bond


def lies_in(columns, others):
    return all([column in others for column in columns])


def next_step(bonds, reached):
    # Only a bond that gives something new: so none is taken twice, and the steps end.
    for place, bond in enumerate(bonds):
        if lies_in(bond[0], reached) and not lies_in(bond[1], reached):
            return place
    return None


def walked(bonds, columns, wanted):
    # The places of bonds that are taken, and the columns reached by them: all
    # that hang on the columns, or some with all that are wanted among them.
    reached = list(columns)
    steps = []
    place = next_step(bonds, reached)
    while place is not None and not lies_in(wanted, reached):
        steps.append(place)
        reached.extend(bonds[place][1])
        place = next_step(bonds, reached)
    return (steps, reached)


def hanging(bonds, columns, others):
    # Those of the others that hang on the columns, in the others' order.
    reached = walked(bonds, columns, others)[1]
    return tuple([column for column in others if column in reached])


def keeps(table, bond):
    right_of = {}
    for row in table:
        right = picked(row, bond[1])
        if right_of.setdefault(picked(row, bond[0]), right) != right:
            return False
    return True


def span(bonds, many, columns):
    checked_bonds(bonds, many)
    checked_columns(columns, many)
    return hanging(bonds, columns, tuple(range(many)))


def follows(bonds, many, bond):
    checked_bonds(bonds, many)
    checked_bond(bond, many)
    parted = walked(bonds, bond[0], bond[1])
    steps = parted[0]
    reached = parted[1]
    if lies_in(bond[1], reached):
        return ("steps", steps)
    # Alike just in what hangs on the left: a bond whose left is in that has its right in it too.
    return ("rows", [tuple([0] * many), tuple([0 if column in reached else 1 for column in range(many)])])
