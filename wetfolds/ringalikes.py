"""Rows of folds that are alike on rings of paper."""

from wetfolds.alikerows import do_the_same
from wetfolds.checks import check_folds
from wetfolds.errors import TooMany
from wetfolds.rings import GREATEST_RING, check_ring, close_up, fold_ring

GREATEST_TOLD = 32


def alike_on_ring(size, folds, other):
    """Whether two rows fold all ring drops of a size to the same ones."""
    check_ring(size)
    check_folds(folds)
    check_folds(other)
    return parting_spot(size, folds, other) is None


def spot_apart(size, folds, other):
    """The least place of a ring of which two rows fold one drop to unlike ring drops; None if there is none."""
    check_ring(size)
    check_folds(folds)
    check_folds(other)
    return parting_spot(size, folds, other)


def parting_ring(folds, other):
    """The least size of a ring on which two rows are not alike; None if there is none, TooMany if it is too great."""
    check_folds(folds)
    check_folds(other)
    if do_the_same(folds, other):
        return None
    for size in range(1, GREATEST_RING + 1):
        if parting_spot(size, folds, other) is not None:
            return size
    raise TooMany(GREATEST_RING)


def rings_alike(folds, other):
    """The ascending list of the sizes, to 32, of the rings on which two rows are alike."""
    check_folds(folds)
    check_folds(other)
    return [size for size in range(1, GREATEST_TOLD + 1) if parting_spot(size, folds, other) is None]


def parting_spot(size, folds, other):
    """The least place of a ring of which two rows fold one drop to unlike ring drops; None if there is none."""
    # Of a drop at x some drops come to places x + a, the others to places b - x, whatever x is. Let D be what the
    # a of the one row have more than those of the other one, E what its b have less. Nothing parts x if D, moved
    # by x, is E, moved by -x. If nothing parts 0 and 1, D is E, and is D moved by 2: so nothing parts any place.
    for spot in range(min(size, 2)):
        alone = close_up(size, ((spot, 1),))
        if fold_ring(size, alone, folds) != fold_ring(size, alone, other):
            return spot
    return None
