"""The rooms of rows on papers with ends: from which places a drop loses nothing."""

from wetfolds.ends import check_any_length, check_ended_folds
from wetfolds.errors import InvalidLength


def room_of(folds, length):
    """The room of a row on a paper, which can be below 0; None for no folds."""
    check_ended_folds(folds)
    check_any_length(length)
    if len(folds) == 0:
        return None
    return least_room(folds, length)


def safe_places(folds, length):
    """The ascending list of all places of a paper at which a drop loses nothing."""
    check_ended_folds(folds)
    check_any_length(length)
    if len(folds) > 0:
        return places_within(folds[0], least_room(folds, length))
    if length is None:
        raise InvalidLength("all places of a paper without a right end")
    return list(range(length))


def least_room(folds, length):
    """The room of a row of one fold or more."""
    rooms = []
    way = 0
    for before, crease in zip(folds[:1] + folds, folds):
        way += abs(crease - before)
        rooms.append(crease - way)
        if length is not None:
            rooms.append(2 * length - 2 - crease - way)
    return min(rooms)


def places_within(first, room):
    """The ascending list of the places whose first way is at most the room; all of them lie on the paper."""
    return list(range((first - room + 1) // 2, (first + room) // 2 + 1))
