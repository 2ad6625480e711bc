"""Strips: what they are, laid together, moved and mirrored."""

from wetfolds.checks import FARTHEST_PLACE, check_crease, check_number, check_strip, fits_folds, fits_strip


def is_strip(value):
    """Whether any value is a strip that can be handed in."""
    return fits_strip(value)


def are_folds(value):
    """Whether any value is a row of folds."""
    return fits_folds(value)


def total_of(strip):
    """How many drops a strip has in all."""
    check_strip(strip)
    return sum_of_drops(strip)


def laid_together(strip, other):
    """The strip that has the drops of both."""
    check_strip(strip)
    check_strip(other)
    return add_strips(strip, other)


def moved_strip(strip, by):
    """The strip with all drops so many places further."""
    check_strip(strip)
    check_number(by, -FARTHEST_PLACE, FARTHEST_PLACE)
    return move_drops(strip, by)


def mirrored_strip(strip, crease):
    """The strip with all drops at the places that lie on theirs."""
    check_strip(strip)
    check_crease(crease)
    return mirror_drops(strip, crease)


def first_place(strip):
    """The place in a strip that comes first in the order 0, 1, -1, 2, -2 ..; None if there is none."""
    check_strip(strip)
    if len(strip) == 0:
        return None
    return min([place for place, drops in strip], key=rank_of_place)


def rank_of_place(place):
    """The index of a place in the order 0, 1, -1, 2, -2 .."""
    if place > 0:
        return 2 * place - 1
    return -2 * place


def sum_of_drops(strip):
    """How many drops a strip of any length has in all."""
    return sum([drops for place, drops in strip])


def strip_from(table):
    """The strip with the drops that a dict has for places."""
    return tuple(sorted(table.items()))


def add_strips(strip, other):
    """Two strips of any length, laid together."""
    table = dict(strip)
    for place, drops in other:
        table[place] = table.get(place, 0) + drops
    return strip_from(table)


def move_drops(strip, by):
    """A strip moved by any integer."""
    return tuple([(place + by, drops) for place, drops in strip])


def mirror_drops(strip, h):
    """A strip mirrored at any integer."""
    return tuple([(h - place, drops) for place, drops in strip[::-1]])
