"""Lots that one place can come to: their ways, and the rows that bring it there."""

from wetfolds.checks import check_place, check_some_places
from wetfolds.errors import NotInked, TooMany
from wetfolds.formrows import row_between
from wetfolds.sumways import fewest_with_sums

MOST_PLACES = 32
MOST_WAYS = 12


def fewest_ways(lot):
    """The first one, in Python's order, of the ways of a lot with the fewest integers; None if there are none."""
    check_some_places(lot)
    check_few_places(lot)
    return shortest_ways(lot)


def row_from(place, lot):
    """A row of as few folds as can be by which a place comes, alone, to a lot; None if there is none."""
    check_place(place)
    check_some_places(lot)
    if place not in lot:
        raise NotInked("the place does not stand in the lot")
    check_few_places(lot)
    ways = shortest_ways(lot)
    if ways is None:
        return None
    return row_by_ways(place, lot[0] + lot[-1], ways)


def check_few_places(lot):
    """Raise TooMany for a lot with too many places for a search."""
    if len(lot) > MOST_PLACES:
        raise TooMany(MOST_PLACES)


def shortest_ways(lot):
    """The first one of the ways, of at most 12 integers, with the fewest of them of a lot with a place, or None."""
    return fewest_with_sums(tuple([place - lot[0] for place in lot]), MOST_WAYS)


def row_by_ways(place, last, ways):
    """A row with this last crease, and with one fold for each of the ways, by which a place comes to their lot."""
    # The ways of what comes of one place are the steps of the row and the first way, by which twice the place
    # and the first crease differ. So they lead, each with some sign, from twice the place to the last crease.
    return row_between(2 * place, last, ways, 0)[1:]
