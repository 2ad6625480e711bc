"""Lots that came of lots by a row: the greatest ones, and the smallest ones."""

from wetfolds.checks import check_folds, check_lot
from wetfolds.errors import TooMany
from wetfolds.inkedplaces import ink_by_all, ink_of_place

MOST_TRIED_PLACES = 14


def greatest_lot(lot, folds):
    """The greatest lot of a lot by a row."""
    check_lot(lot)
    check_folds(folds)
    return places_within(lot, folds)


def comes_of_some(lot, folds):
    """Whether some lot comes to a lot by a row."""
    check_lot(lot)
    check_folds(folds)
    return ink_by_all(places_within(lot, folds), folds) == lot


def fewest_before(lot, folds):
    """The first one, in Python's order, of the lots with the fewest places that come to a lot by a row, or None."""
    check_lot(lot)
    check_folds(folds)
    places = places_within(lot, folds)
    if len(places) > MOST_TRIED_PLACES:
        raise TooMany(MOST_TRIED_PLACES)
    inks = [(place, marks_of(ink_of_place(place, folds), lot)) for place in places]
    for many in range(len(inks) + 1):
        found = first_to_mark(inks, marks_of(lot, lot), many)
        if found is not None:
            return found
    return None


def places_within(lot, folds):
    """The ascending tuple of all places that come, each alone, to places of a lot alone."""
    # A place does so by a fold and further ones if it and the place on which it is laid do so by the further ones.
    for crease in folds[::-1]:
        known = {place: True for place in lot}
        lot = tuple([place for place in lot if crease - place in known])
    return lot


def marks_of(places, lot):
    """An integer that tells, by one bit for each place of a lot, which of them stand among some places."""
    known = {place: True for place in places}
    return sum([1 << at for at, place in enumerate(lot) if place in known])


def first_to_mark(inks, lacking, many):
    """The first tuple, in Python's order, of so many of the places of an ascending list of pairs (place, marks)
    whose marks are together all that lack; None if there is none."""
    if many == 0:
        return () if lacking == 0 else None
    for at in range(len(inks) - many + 1):
        place, marks = inks[at]
        found = first_to_mark(inks[at + 1:], lacking - (lacking & marks), many - 1)
        if found is not None:
            return (place,) + found
    return None
