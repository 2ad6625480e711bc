"""Where there is ink behind a row of folds, and which rows ink the same places."""

from wetfolds.checks import check_folds, check_lot, check_short
from wetfolds.errors import TooMany
from wetfolds.forms import count_signs
from wetfolds.prints import steps_between

MOST_INKED_PLACES = 10000


def inked_by(lot, folds):
    """The lot to which a lot comes by a row; TooMany for too many places."""
    check_lot(lot)
    check_folds(folds)
    for crease in folds:
        lot = ink_once(lot, crease)
        # No fold takes ink away, so there are too many at last, too.
        if len(lot) > MOST_INKED_PLACES:
            raise TooMany(MOST_INKED_PLACES)
    return lot


def sums_by(folds):
    """The sums of a row."""
    check_folds(folds)
    return sums_between(folds)


def alike_by_places(folds, other_folds):
    """Whether each lot comes to the same by two rows."""
    check_folds(folds)
    check_folds(other_folds)
    return ink_alike(folds, other_folds)


def place_apart_in_ink(folds, other_folds):
    """The nearest place that comes, alone, to unlike lots by two short rows; None if there is none."""
    check_folds(folds)
    check_folds(other_folds)
    check_short(folds)
    check_short(other_folds)
    if ink_alike(folds, other_folds):
        return None
    # Two rows that are not alike ink the same of at most twice as many places as one of them has sums: if an
    # integer is a sum of one of them alone, twice the first way has to make it a sum of the other one. So the
    # search ends soon.
    place = 0
    while ink_of_place(place, folds) == ink_of_place(place, other_folds):
        place = place_behind(place)
    return place


def ink_once(lot, crease):
    """The lot to which a lot of any places comes by a fold."""
    return tuple(sorted(set(list(lot) + [crease - place for place in lot])))


def ink_by_all(lot, folds):
    """The lot to which a lot of any places comes by any integers, one behind the other."""
    for crease in folds:
        lot = ink_once(lot, crease)
    return lot


def ink_of_place(place, folds):
    """The lot to which any place comes, alone, by any integers, one behind the other."""
    return ink_by_all((place,), folds)


def sums_between(folds):
    """The sums of a tuple of any integers."""
    if len(folds) == 0:
        return ()
    return tuple(sorted(count_signs(steps_between(folds))))


def ink_alike(folds, other_folds):
    """Whether two rows of any integers are alike by places."""
    if folds[:1] != other_folds[:1] or folds[-1:] != other_folds[-1:]:
        return False
    return sums_between(folds) == sums_between(other_folds)


def place_behind(place):
    """The place that comes next behind a place in the order 0, 1, -1, 2, -2 .."""
    if place > 0:
        return -place
    return 1 - place
