"""Rings of paper: drops on them, folded, printed, cut open and closed up."""

from wetfolds.checks import check_folds, check_number, check_strip, is_from_to
from wetfolds.errors import InvalidPlace, InvalidRing

GREATEST_RING = 64
MOST_RING_DROPS = 10 ** 9


def are_ring_drops(size, value):
    """Whether any value is ring drops of a size."""
    check_ring(size)
    return fit_ring(size, value)


def ring_folded(size, drops, folds):
    """Ring drops as folded by a row."""
    check_ring(size)
    check_ring_drops(size, drops)
    check_folds(folds)
    return fold_ring(size, drops, folds)


def ring_print(size, spot, folds):
    """What comes of one drop at a place of a ring."""
    check_ring(size)
    check_spot(size, spot)
    check_folds(folds)
    return fold_ring(size, close_up(size, ((spot, 1),)), folds)


def cut_open(size, drops):
    """The strip with the drops of each place of a ring that has some."""
    check_ring(size)
    check_ring_drops(size, drops)
    return tuple([(place, many) for place, many in enumerate(drops) if many > 0])


def closed_up(size, strip):
    """The ring drops to which the drops of a strip come, each at the rest of its place."""
    check_ring(size)
    check_strip(strip)
    return close_up(size, strip)


def check_ring(size):
    """Raise InvalidNumber for what is no size of a ring."""
    check_number(size, 1, GREATEST_RING)


def check_ring_drops(size, value):
    """Raise InvalidRing for what is no ring drops of a size."""
    if not fit_ring(size, value):
        raise InvalidRing("no ring drops of this size")


def check_spot(size, value):
    """Raise InvalidPlace for what is no place of a ring."""
    if not is_from_to(value, 0, size - 1):
        raise InvalidPlace("no place of the ring")


def fit_ring(size, value):
    """Whether a value is ring drops of a size, any positive integer."""
    if not isinstance(value, tuple) or len(value) != size:
        return False
    return all([is_from_to(many, 0, MOST_RING_DROPS) for many in value])


def fold_ring(size, drops, folds):
    """Ring drops, of any numbers, as folded by any integers."""
    for crease in folds:
        drops = tuple([drops[place] + drops[(crease - place) % size] for place in range(size)])
    return drops


def close_up(size, strip):
    """The ring drops to which the drops of a strip of any length come."""
    counts = [0] * size
    for place, drops in strip:
        counts[place % size] += drops
    return tuple(counts)
