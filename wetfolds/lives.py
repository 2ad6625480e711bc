"""Logs of deeds, and what strips become by them."""

from wetfolds.checks import check_strip, is_from_to, is_tuple_up_to
from wetfolds.errors import InvalidLog, TooMany
from wetfolds.folding import MOST_FOLDED_PAIRS, fold_once
from wetfolds.strips import add_strips, move_drops

MOST_DEEDS = 30
MOST_LOG_FOLDS = 12
FARTHEST_DEED = 10 ** 4
MOST_DROPS = 10 ** 6
GREATEST_DEED_CREASE = 2 * 10 ** 4


def is_log(value):
    """Whether any value is a log."""
    if not is_tuple_up_to(value, MOST_DEEDS) or not all([is_deed(item) for item in value]):
        return False
    return count_log_folds(value) <= MOST_LOG_FOLDS


def lived(strip, log):
    """The strip that a strip becomes by a log."""
    check_strip(strip)
    check_log(log)
    return live_limited(strip, log)[-1]


def lived_on(strip, log):
    """The list of a strip and of what it is behind each deed of a log."""
    check_strip(strip)
    check_log(log)
    return live_limited(strip, log)


def check_log(value):
    """Raise InvalidLog for what is no log."""
    if not is_log(value):
        raise InvalidLog("no log")


def is_deed(value):
    """Whether a value is a deed."""
    if not isinstance(value, tuple):
        return False
    if len(value) == 3:
        return value[0] == "drop" and is_deed_place(value[1]) and is_number_of_drops(value[2])
    if len(value) == 2 and value[0] == "fold":
        return is_deed_crease(value[1])
    return len(value) == 2 and value[0] == "move" and is_deed_place(value[1])


def is_deed_place(value):
    """Whether a value is an integer that a deed can have as a place, or by which it can move."""
    return is_from_to(value, -FARTHEST_DEED, FARTHEST_DEED)


def is_number_of_drops(value):
    """Whether a value is an integer that a deed can have as its drops."""
    return is_from_to(value, 1, MOST_DROPS)


def is_deed_crease(value):
    """Whether a value is an integer that a deed can have as its crease."""
    return is_from_to(value, -GREATEST_DEED_CREASE, GREATEST_DEED_CREASE)


def count_log_folds(log):
    """How many of some deeds are folds."""
    return len([deed for deed in log if deed[0] == "fold"])


def do_deed(strip, deed):
    """What a strip of any length becomes by a deed; TooMany if it has too many pairs then."""
    if deed[0] == "drop":
        strip = add_strips(strip, ((deed[1], deed[2]),))
    elif deed[0] == "fold":
        strip = fold_once(strip, deed[1])
    else:
        strip = move_drops(strip, deed[1])
    if len(strip) > MOST_FOLDED_PAIRS:
        raise TooMany(MOST_FOLDED_PAIRS)
    return strip


def live_limited(strip, log):
    """The list of a strip and of what it is behind each deed; TooMany if one of them has too many pairs."""
    strips = [strip]
    for deed in log:
        strip = do_deed(strip, deed)
        strips.append(strip)
    return strips
