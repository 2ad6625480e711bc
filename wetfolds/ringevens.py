"""Drops that a row of folds spreads evenly over a ring.

Evenly as many drops on each place are 2 ** n in all, so only rings of 2 ** e places take them. What comes of one
drop is, on a ring, the product of 1 + z ** d for each step d, and for the first way, moved; it is even if each
root of z ** size - 1 but 1 is a root of it. On a ring of 2 ** e places these are the roots of 1 + z ** p for the
powers of two p below the size, and 1 + z ** d has just those of the p that is the twos of d.
"""

from wetfolds.checks import MOST_FOLDS, check_folds, check_number
from wetfolds.prints import steps_between
from wetfolds.rings import check_spot
from wetfolds.ringwashes import GREATEST_SIZE, twos_of


def is_spread_evenly(size, spot, folds):
    """Whether a drop at a place of a ring is spread evenly by a row."""
    check_number(size, 1, GREATEST_SIZE)
    check_spot(size, spot)
    check_folds(folds)
    return twos_of(size) == size and least_lacking(size, spot, folds) is None


def fewest_even(size, spot):
    """A row of as few folds as can be that spreads a drop evenly; None if there is none."""
    check_number(size, 1, GREATEST_SIZE)
    check_spot(size, spot)
    # Each power of two below the size needs a step or the first way of its own, so as many folds.
    if twos_of(size) != size or size > (1 << MOST_FOLDS):
        return None
    return tuple([2 * spot + 2 * power - 1 for power in powers_below(size)])


def lacking_power(size, spot, folds):
    """The least power of two below a size that is such a one, too, and is the twos of nothing; None if there is
    none."""
    check_number(size, 1, GREATEST_SIZE)
    check_spot(size, spot)
    check_folds(folds)
    if twos_of(size) != size:
        return None
    return least_lacking(size, spot, folds)


def least_lacking(size, spot, folds):
    """The least power of two below a size that is the twos neither of a step nor of the first way; or None."""
    there = [twos_of(way) for way in ways_of(spot, folds) if way > 0]
    for power in powers_below(size):
        if power not in there:
            return power
    return None


def ways_of(spot, folds):
    """The tuple of the first way of a drop and of the steps; () for no folds."""
    if len(folds) == 0:
        return ()
    return (abs(2 * spot - folds[0]),) + steps_between(folds)


def powers_below(size):
    """The list of the powers of two below a size: 1, 2, 4 .."""
    return [1 << e for e in range(size.bit_length()) if (1 << e) < size]
