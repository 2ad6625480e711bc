"""Strips folded at a crease, and by rows of folds."""

from wetfolds.checks import check_crease, check_folds, check_place, check_strip
from wetfolds.errors import TooMany
from wetfolds.strips import add_strips, mirror_drops

MOST_FOLDED_PAIRS = 10000


def folded(strip, crease):
    """The strip folded at a crease."""
    check_strip(strip)
    check_crease(crease)
    return fold_once(strip, crease)


def folded_by(strip, folds):
    """The strip folded by a row of folds."""
    check_strip(strip)
    check_folds(folds)
    return fold_limited(strip, folds)[-1]


def folded_on(strip, folds):
    """The list of the strips folded by each beginning of a row, in order."""
    check_strip(strip)
    check_folds(folds)
    return fold_limited(strip, folds)


def drops_at(strip, folds, place):
    """How many drops there are at a place behind a row of folds."""
    check_strip(strip)
    check_folds(folds)
    check_place(place)
    # One drop at the place, folded by the row turned about, tells how often the drops of each place
    # come there, so the strip itself, which could be long, need not be folded.
    often = dict(fold_by_all(((place, 1),), folds[::-1]))
    return sum([drops * often.get(start, 0) for start, drops in strip])


def fold_once(strip, crease):
    """A strip of any length, folded at any integer."""
    return add_strips(strip, mirror_drops(strip, crease))


def fold_by_all(strip, folds):
    """A strip of any length, folded at any integers, one behind the other."""
    for crease in folds:
        strip = fold_once(strip, crease)
    return strip


def fold_limited(strip, folds):
    """The list of a strip folded by each beginning of a row; TooMany if one of them has too many pairs."""
    strips = [strip]
    for crease in folds:
        strip = fold_once(strip, crease)
        if len(strip) > MOST_FOLDED_PAIRS:
            raise TooMany(MOST_FOLDED_PAIRS)
        strips.append(strip)
    return strips
