"""To how many places each place comes, but for finitely many of them."""

from wetfolds.checks import check_short, check_some_folds
from wetfolds.inkedplaces import sums_between


def usual_count(folds):
    """To how many places each place comes, alone, but for finitely many."""
    check_some_folds(folds)
    check_short(folds)
    # What comes of a place are two stretches of as many places as there are sums, apart from each other for
    # all places that are far from the first crease.
    return 2 * len(sums_between(folds))


def unusual_places(folds):
    """The ascending list of the places that come to other numbers of places."""
    check_some_folds(folds)
    check_short(folds)
    sums = sums_between(folds)
    # Two places of both come to be one if twice the first way makes one sum of another one.
    ways = [(further - told) // 2 for told in sums for further in sums]
    return sorted(set([(folds[0] + way) // 2 for way in ways if (folds[0] + way) % 2 == 0]))
