"""Ink that dries: what comes of one drop, and which rows print the same."""

from wetfolds.checks import check_folds, check_place, is_from_to
from wetfolds.errors import InvalidTime
from wetfolds.strips import add_strips, mirror_drops

GREATEST_TIME = 100
# So far from all creases that the places x + s and m - x of the drops of one at x, whatever s and m are, lie apart:
# rows that print the same of a drop here do so of each drop.
FAR_DROP = 10 ** 8


def dry_print(place, folds, time):
    """The dry print of a drop at a place."""
    check_place(place)
    check_folds(folds)
    check_time(time)
    return print_dry(place, folds, time)


def same_dry(folds, others, time):
    """Whether two rows print the same at a time."""
    check_folds(folds)
    check_folds(others)
    check_time(time)
    return print_alike(folds, others, time)


def parting_time(folds, others):
    """The least time at which two rows do not print the same; None if there is none."""
    check_folds(folds)
    check_folds(others)
    # A drop that has not dried behind the last fold tells nothing more by drying later.
    for time in range(max(len(folds), len(others)) + 1):
        if not print_alike(folds, others, time):
            return time
    return None


def check_time(value):
    """Raise InvalidTime for what is no time."""
    if not is_from_to(value, 0, GREATEST_TIME):
        raise InvalidTime("no time")


def print_alike(folds, others, time):
    """Whether two rows print the same at a time."""
    return print_dry(FAR_DROP, folds, time) == print_dry(FAR_DROP, others, time)


def print_dry(place, folds, time):
    """The dry print of a drop at any place, by a row of any integers."""
    # The strips of the drops by age: that which was there first, and what each fold laid to it.
    came = [((place, 1),)]
    for crease in folds:
        wet = came[max(0, len(came) - time):]
        came.append(mirror_drops(all_together(wet), crease))
    return all_together(came)


def all_together(strips):
    """Some strips laid together."""
    together = ()
    for strip in strips:
        together = add_strips(together, strip)
    return together
