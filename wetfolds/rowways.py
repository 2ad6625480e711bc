"""Rows of folds, moved and mirrored."""

from wetfolds.checks import FARTHEST_PLACE, GREATEST_CREASE, check_crease, check_folds, check_number, is_crease
from wetfolds.errors import TooMany


def shifted_folds(folds, by):
    """The row moved so many places further."""
    check_folds(folds)
    check_number(by, -FARTHEST_PLACE, FARTHEST_PLACE)
    return with_creases_in_limit(shift_row(folds, by))


def mirrored_folds(folds, crease):
    """The row mirrored at a crease."""
    check_folds(folds)
    check_crease(crease)
    return with_creases_in_limit(mirror_row(folds, crease))


def plain_folds(folds):
    """The plain row of a row."""
    check_folds(folds)
    if len(folds) == 0:
        return ()
    # Moving and mirroring change a crease by even integers only, so the first crease of the plain row
    # is the one of 0 and 1 that is even or odd as it is.
    low = folds[0] // 2
    high = (folds[0] + 1) // 2
    return min(shift_row(folds, -low), mirror_row(folds, high))


def folds_between(folds, other):
    """The way from one row to another one, or None."""
    check_folds(folds)
    check_folds(other)
    if len(folds) != len(other):
        return None
    if len(folds) == 0:
        return ("moved", 0)
    by = (other[0] - folds[0]) // 2
    if shift_row(folds, by) == other:
        return ("moved", by)
    h = (other[0] + folds[0]) // 2
    if mirror_row(folds, h) == other:
        return ("mirrored", h)
    return None


def shift_row(folds, by):
    """A row of any integers, moved by any integer."""
    return tuple([crease + 2 * by for crease in folds])


def mirror_row(folds, h):
    """A row of any integers, mirrored at any integer."""
    return tuple([2 * h - crease for crease in folds])


def with_creases_in_limit(folds):
    """The row itself; TooMany if one of its integers is too great for a crease."""
    if not all([is_crease(crease) for crease in folds]):
        raise TooMany(GREATEST_CREASE)
    return folds
