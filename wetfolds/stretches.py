"""Stretches of places without holes: rows that ink them, and the holes of lots."""

from wetfolds.checks import FARTHEST_LOT_PLACE, check_folds, check_lot, check_place, is_from_to
from wetfolds.errors import InvalidStretch
from wetfolds.inkedplaces import ink_of_place
from wetfolds.lotways import row_by_ways

MOST_FARTHER = 255


def stretch_row(place, first, last):
    """A row of as few folds as can be by which a place comes, alone, to all places from one to another one."""
    for value in (place, first, last):
        if not is_from_to(value, -FARTHEST_LOT_PLACE, FARTHEST_LOT_PLACE):
            raise InvalidStretch("no place that is near enough")
    if not first <= place <= last or last > first + MOST_FARTHER:
        raise InvalidStretch("no stretch of the place")
    return row_by_ways(place, first + last, ways_of_stretch(last - first))


def holes_of(lot):
    """The ascending list of the holes of a lot."""
    check_lot(lot)
    return [(place + 1, further - 1) for place, further in zip(lot, lot[1:]) if place + 1 < further]


def inks_whole(folds, place):
    """Whether a place comes, alone, to a lot without holes."""
    check_folds(folds)
    check_place(place)
    lot = ink_of_place(place, folds)
    return lot[-1] - lot[0] + 1 == len(lot)


def ways_of_stretch(farther):
    """The fewest positive integers whose sums are all integers from 0 to this one."""
    ways = []
    # A further way can make twice as many places, no more; the last one makes just those that lack.
    reach = 0
    while reach < farther:
        way = min(reach + 1, farther - reach)
        ways.append(way)
        reach += way
    return tuple(sorted(ways))
