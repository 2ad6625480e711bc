"""Rows that do the same to all strips, and those that do so many times as much."""

from wetfolds.checks import check_folds
from wetfolds.forms import form_between
from wetfolds.prints import print_by


def rows_alike(folds, beside):
    """Whether two rows make the same of each strip."""
    check_folds(folds)
    check_folds(beside)
    return do_the_same(folds, beside)


def parting_place(folds, beside):
    """The nearest place of a drop of which the prints of two rows are unlike; None if there is none."""
    check_folds(folds)
    check_folds(beside)
    # Rows that are not alike print unlike of a drop at 0, or of one at 1: no further place need be tried.
    for place in (0, 1):
        if print_by(place, folds) != print_by(place, beside):
            return place
    return None


def doublings(folds, beside):
    """How many times the first row doubles the second one; None if it does not."""
    check_folds(folds)
    check_folds(beside)
    if not do_the_same(without_halts(folds), without_halts(beside)):
        return None
    return len(folds) - len(beside)


def exchange_places(folds):
    """The tuple of the indices of folds that can be exchanged with the next one."""
    check_folds(folds)
    return tuple([at for at in range(len(folds) - 1) if do_the_same(folds, with_exchanged(folds, at))])


def do_the_same(folds, beside):
    """Whether two rows of any integers make the same of each strip."""
    if len(folds) == 0 or len(beside) == 0:
        return len(folds) == len(beside)
    return form_between(folds) == form_between(beside)


def without_halts(folds):
    """The row without the folds at the same crease as the one ahead, each of which only doubles all drops."""
    kept = [further for crease, further in zip(folds, folds[1:]) if crease != further]
    return folds[:1] + tuple(kept)


def with_exchanged(folds, at):
    """The row with a fold and the next one exchanged."""
    return folds[:at] + (folds[at + 1], folds[at]) + folds[at + 2:]
