"""What rows of folds make of strips modulo a prime, and which strips they wash out."""

from wetfolds.checks import check_folds, check_place, check_prime, check_strip
from wetfolds.errors import TooMany
from wetfolds.folding import MOST_FOLDED_PAIRS, fold_by_all, fold_once
from wetfolds.prints import print_by
from wetfolds.washforms import drops_modulo, form_modulo


def washed_by(strip, folds, prime):
    """What a row makes of a strip, modulo a prime."""
    check_strip(strip)
    check_folds(folds)
    check_prime(prime)
    strip = drops_modulo(strip, prime)
    for crease in folds:
        strip = drops_modulo(fold_once(strip, crease), prime)
        if len(strip) > MOST_FOLDED_PAIRS:
            raise TooMany(MOST_FOLDED_PAIRS)
    return strip


def washes_out(strip, folds, prime):
    """Whether a row washes a strip out modulo a prime."""
    check_strip(strip)
    check_folds(folds)
    check_prime(prime)
    if len(folds) > 0 and form_modulo(folds, prime) == ():
        return True
    # What the first fold does not wash out, no further fold does.
    return drops_modulo(fold_by_all(strip, folds[:1]), prime) == ()


def count_inked(place, folds, prime):
    """How many pairs the print of a drop has modulo a prime."""
    check_place(place)
    check_folds(folds)
    check_prime(prime)
    return len(drops_modulo(print_by(place, folds), prime))
