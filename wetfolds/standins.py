"""Rows that stand in the place of a stretch of another row."""

from wetfolds.alikerows import do_the_same
from wetfolds.checks import MOST_FOLDS, check_folds, is_from_to
from wetfolds.errors import InvalidStretch, TooMany


def with_row(folds, begin, end, beside):
    """The row in which another one stands in the place of a stretch."""
    check_folds(folds)
    check_stretch(folds, begin, end)
    check_folds(beside)
    row = put_in_place(folds, begin, end, beside)
    if len(row) > MOST_FOLDS:
        raise TooMany(MOST_FOLDS)
    return row


def places_for(folds, beside):
    """The ascending list of the stretches in whose place another row does the same."""
    check_folds(folds)
    check_folds(beside)
    stretches = [(begin, end) for begin in range(len(folds) + 1) for end in range(begin, len(folds) + 1)]
    # What is alike to the row has as many folds, so nothing of more than 12 folds is told here.
    return [(begin, end) for begin, end in stretches
            if do_the_same(folds, put_in_place(folds, begin, end, beside))]


def check_stretch(folds, begin, end):
    """Raise InvalidStretch for what is no stretch of a row."""
    if not is_from_to(end, 0, len(folds)) or not is_from_to(begin, 0, end):
        raise InvalidStretch("no stretch of the row")


def put_in_place(folds, begin, end, beside):
    """The row in which another one stands in the place of a stretch, however many folds it has then."""
    return folds[:begin] + beside + folds[end:]
