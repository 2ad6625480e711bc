"""Papers with ends: what comes there of strips, and what is lost."""

from wetfolds.checks import check_place, check_strip, fits_folds, is_from_to
from wetfolds.errors import InvalidFolds, InvalidLength, InvalidPlace, InvalidStrip
from wetfolds.strips import add_strips, mirror_drops, sum_of_drops

MOST_ENDED_FOLDS = 8
GREATEST_ENDED_CREASE = 60
GREATEST_LENGTH = 64


def ended_print(place, folds, length):
    """The ended print of a drop at a place of a paper; a length None is that of a paper without a right end."""
    check_drop(place, folds, length)
    return print_ended(place, folds, length)


def lost_drops(place, folds, length):
    """How many drops are lost of one at a place of a paper."""
    check_drop(place, folds, length)
    return (1 << len(folds)) - sum_of_drops(print_ended(place, folds, length))


def ended_strip(strip, folds, length):
    """What comes of a strip on a paper."""
    check_strip(strip)
    check_ended_folds(folds)
    check_any_length(length)
    if not all([is_on_paper(place, length) for place, drops in strip]):
        raise InvalidStrip("not on the paper")
    return fold_ended(strip, folds, length)


def check_drop(place, folds, length):
    """Raise the errors of a drop at a place of a paper that is folded."""
    check_place(place)
    check_ended_folds(folds)
    check_any_length(length)
    if not is_on_paper(place, length):
        raise InvalidPlace("not on the paper")


def check_ended_folds(value):
    """Raise InvalidFolds for what is no row for papers with ends."""
    if not fits_folds(value) or len(value) > MOST_ENDED_FOLDS:
        raise InvalidFolds("no row of so few folds")
    if not all([abs(crease) <= GREATEST_ENDED_CREASE for crease in value]):
        raise InvalidFolds("no row of creases that small")


def check_length(value, greatest):
    """Raise InvalidLength for what is no length up to a greatest one."""
    if not is_from_to(value, 0, greatest):
        raise InvalidLength(f"no length from 0 to {greatest}")


def check_any_length(value):
    """Raise InvalidLength for what is neither a length nor None."""
    if value is not None:
        check_length(value, GREATEST_LENGTH)


def is_on_paper(place, length):
    """Whether an integer is a place of a paper."""
    return place >= 0 and (length is None or place < length)


def print_ended(place, folds, length):
    """The ended print of a drop at a place of a paper of any length."""
    return fold_ended(((place, 1),), folds, length)


def fold_ended(strip, folds, length):
    """What comes of a strip on a paper of any length."""
    for crease in folds:
        come = [(place, drops) for place, drops in mirror_drops(strip, crease) if is_on_paper(place, length)]
        strip = add_strips(strip, tuple(come))
    return strip
