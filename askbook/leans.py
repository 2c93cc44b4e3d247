"""Atoms that an asking can do without, and the asking without them."""

from askbook.errors import NoAsking
from askbook.things import checked_asking
from askbook.ways import within


def without(asking, place):
    atoms = asking[1]
    return (asking[0], atoms[:place] + atoms[place + 1:])


def needless(asking, place):
    checked_asking(asking)
    try:
        told = within(without(asking, place), asking)
    except NoAsking:
        # What is left is no asking: no atom, or the head has a stand-in that stands nowhere.
        return False
    return told[0] == "way"


def lean(asking):
    checked_asking(asking)
    # One walk is enough: an atom that was not needless among more atoms is not among fewer.
    left = asking
    place = 0
    while place < len(left[1]):
        if needless(left, place):
            left = without(left, place)
        else:
            place += 1
    return left
