"""What comes of one drop: its print, its reaches, and the steps of a row."""

from wetfolds.checks import check_folds, check_place
from wetfolds.folding import fold_by_all


def steps_of(folds):
    """The steps of a row, from the least to the greatest."""
    check_folds(folds)
    return steps_between(folds)


def first_way(place, folds):
    """By how much twice the place and the first crease differ; None for no folds."""
    check_place(place)
    check_folds(folds)
    if len(folds) == 0:
        return None
    return abs(2 * place - folds[0])


def print_of(place, folds):
    """The strip that comes of one drop at a place."""
    check_place(place)
    check_folds(folds)
    return print_by(place, folds)


def reaches_of(place, folds):
    """The tuple of the least and the greatest place of the prints by each beginning of a row."""
    check_place(place)
    check_folds(folds)
    strips = [print_by(place, folds[:many]) for many in range(len(folds) + 1)]
    return tuple([(strip[0][0], strip[-1][0]) for strip in strips])


def looked_back(place, folds):
    """The strip that tells of each place how many drops one drop there prints at this place."""
    check_place(place)
    check_folds(folds)
    return print_by(place, folds[::-1])


def print_by(place, folds):
    """The print of one drop at any integer, by a row of any integers."""
    return fold_by_all(((place, 1),), folds)


def steps_between(folds):
    """The steps of a tuple of any integers."""
    return tuple(sorted([abs(further - crease) for crease, further in zip(folds, folds[1:])]))
