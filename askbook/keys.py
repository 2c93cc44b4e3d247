"""Keys of columns, and the lean bonds of bonds."""

from askbook.bonds import checked_bonds, checked_columns, hanging, lies_in


def choices(columns):
    # All parts of the columns, fewest first, then in order.
    found = [()]
    for column in columns:
        found = found + [choice + (column,) for choice in found]
    return sorted(found, key=lambda choice: (len(choice), choice))


def keys(bonds, many, columns):
    checked_bonds(bonds, many)
    checked_columns(columns, many)
    # Lesser parts come first, so what has a key in it is seen to be more than a key.
    found = []
    for choice in choices(columns):
        if hanging(bonds, choice, columns) == columns and not any([lies_in(key, choice) for key in found]):
            found.append(choice)
    return sorted(found)


def is_following(bonds, left, right):
    # Asked of more bonds than may be handed in: parted, ten of them can be sixty.
    return hanging(bonds, left, right) == right


def parted_bonds(bonds):
    parted = []
    for left, right in bonds:
        parted.extend([(left, (column,)) for column in right if column not in left])
    return parted


def with_lean_left(bonds, place):
    lean = list(bonds)
    right = bonds[place][1]
    for column in bonds[place][0]:
        without = tuple([other for other in lean[place][0] if other != column])
        if is_following(lean, without, right):
            lean[place] = (without, right)
    return lean


def with_lean_lefts(bonds):
    lean = bonds
    for place in range(len(bonds)):
        lean = with_lean_left(lean, place)
    return lean


def without_following(bonds):
    left = list(bonds)
    place = 0
    while place < len(left):
        others = left[:place] + left[place + 1:]
        if is_following(others, left[place][0], left[place][1]):
            left = others
        else:
            place += 1
    return left


def lean_bonds(bonds, many):
    checked_bonds(bonds, many)
    return without_following(with_lean_lefts(parted_bonds(bonds)))
