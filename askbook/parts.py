"""Parts of columns: tables put together of them, and all columns cut into settled ones."""

from askbook.bonds import checked_bonds, checked_columns, hanging, is_columns, lies_in
from askbook.errors import NoColumns
from askbook.fits import Fits, joined_freely, picked, places_of
from askbook.keys import choices


def all_columns(parts):
    columns = []
    for part in parts:
        columns.extend(part)
    return sorted(set(columns))


def widest(parts):
    # A row that is like one of the table in a part is so in all that lies in that part.
    once = sorted(set(parts))
    return [part for part in once if not any([part != other and lies_in(part, other) for other in once])]


def part_fits(table, part):
    return Fits(list(part), dict([(picked(row, part), ()) for row in table]))


def put_together(table, parts):
    columns = all_columns(parts)
    fits = joined_freely([part_fits(table, part) for part in widest(parts)], columns)
    places = places_of(columns, fits.columns)
    return sorted([picked(row, places) for row in fits.rows])


def checked_parts(parts, many):
    if not isinstance(parts, list) or not all([is_columns(part, many) for part in parts]):
        raise NoColumns("parts are a list of rising tuples of columns")
    if len(all_columns(parts)) < many:
        raise NoColumns("parts are together all columns")
    return parts


def clash(bonds, table):
    # A column and two of its numbers, the lesser first, that by a bond have to be one; None if all are kept.
    for left, right in bonds:
        row_of = {}
        for row in table:
            like = row_of.setdefault(picked(row, left), row)
            for column in right:
                if like[column] != row[column]:
                    return (column, min(like[column], row[column]), max(like[column], row[column]))
    return None


def with_one_number(table, column, lesser, greater):
    evened = []
    for row in table:
        number = lesser if row[column] == greater else row[column]
        evened.append(row[:column] + (number,) + row[column + 1:])
    return evened


def kept_table(bonds, table):
    found = clash(bonds, table)
    while found is not None:
        table = with_one_number(table, found[0], found[1], found[2])
        found = clash(bonds, table)
    return sorted(set(table))


def sound(bonds, many, parts):
    checked_bonds(bonds, many)
    checked_parts(parts, many)
    # For each part a row that is nought in its columns and unlike all others
    # elsewhere: the row of noughts comes of these parts. No more is made alike
    # than the bonds ask for, so if it stands in this table it does in each one.
    rows = []
    for place, part in enumerate(widest(parts), start=1):
        rows.append(tuple([0 if column in part else place for column in range(many)]))
    table = kept_table(bonds, rows)
    if tuple([0] * many) in table:
        return ("sound", None)
    return ("rows", table)


def two_parts(bonds, part):
    # None if the part is settled.
    for columns in choices(part):
        first = hanging(bonds, columns, part)
        if len(columns) < len(first) < len(part):
            return (first, tuple([column for column in part if column in columns or column not in first]))
    return None


def settled(bonds, many, columns):
    checked_bonds(bonds, many)
    checked_columns(columns, many)
    return two_parts(bonds, columns) is None


def settled_parts(bonds, part):
    two = two_parts(bonds, part)
    if two is None:
        return [part]
    return settled_parts(bonds, two[0]) + settled_parts(bonds, two[1])


def cut(bonds, many):
    checked_bonds(bonds, many)
    return settled_parts(bonds, tuple(range(many)))
