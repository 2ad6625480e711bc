"""The rows of so many folds with creases up to a limit, and their indices."""

from wetfolds.checks import GREATEST_CREASE, MOST_FOLDS, check_folds, check_number


def count_folds(many, most):
    """How many rows of so many folds have creases of at most so much either way."""
    check_number(many, 0, MOST_FOLDS)
    check_number(most, 0, GREATEST_CREASE)
    return count_rows_up_to(many, most)


def folds_at(many, most, number):
    """The row with an index among these, in Python's order."""
    check_number(many, 0, MOST_FOLDS)
    check_number(most, 0, GREATEST_CREASE)
    check_number(number, 0, count_rows_up_to(many, most) - 1)
    backwards = []
    for _ in range(many):
        backwards.append(number % (2 * most + 1) - most)
        number //= 2 * most + 1
    return tuple(backwards[::-1])


def folds_number(folds, most):
    """The index of a row among those of as many folds; None if it has a greater crease."""
    check_folds(folds)
    check_number(most, 0, GREATEST_CREASE)
    if any([abs(crease) > most for crease in folds]):
        return None
    number = 0
    for crease in folds:
        number = number * (2 * most + 1) + crease + most
    return number


def count_rows_up_to(many, most):
    """How many tuples of so many integers, of at most so much either way, there are."""
    count = 1
    for _ in range(many):
        count *= 2 * most + 1
    return count
