"""Strips that a row of folds brings to one."""

from wetfolds.checks import check_folds, check_strip
from wetfolds.foldbacks import count_ahead_of_fold
from wetfolds.folding import fold_by_all, fold_limited, fold_once
from wetfolds.strips import rank_of_place


def come_to_one(strip, other, folds):
    """Whether two strips, folded by a row, are one strip."""
    check_strip(strip)
    check_strip(other)
    check_folds(folds)
    # What the first fold does not bring to one, no further fold does.
    return fold_by_all(strip, folds[:1]) == fold_by_all(other, folds[:1])


def first_unlike(strip, other, folds):
    """The nearest place at which two strips, folded by a row, have unlike numbers of drops; None if there is none."""
    check_strip(strip)
    check_strip(other)
    check_folds(folds)
    strip = fold_limited(strip, folds)[-1]
    other = fold_limited(other, folds)[-1]
    here = dict(strip)
    there = dict(other)
    unlike = [place for place, drops in strip + other if here.get(place, 0) != there.get(place, 0)]
    if len(unlike) == 0:
        return None
    return min(unlike, key=rank_of_place)


def count_like(strip, folds):
    """How many strips a row brings to the same strip as this one."""
    check_strip(strip)
    check_folds(folds)
    if len(folds) == 0:
        return 1
    return count_ahead_of_fold(fold_once(strip, folds[0]), folds[0])
