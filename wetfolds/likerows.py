"""The shortest rows that ink the same places, and the steps of all such rows."""

from wetfolds.checks import check_folds, check_short
from wetfolds.errors import TooMany
from wetfolds.forms import count_between, next_creases
from wetfolds.inkedplaces import sums_between
from wetfolds.sumways import all_with_sums, fewest_with_sums

MOST_STEPS = 7
MOST_STEP_LOTS = 500


def fewest_folds(folds):
    """The fewest folds of a row that is alike by places."""
    check_folds(folds)
    check_short(folds)
    return count_fewest(folds)


def least_ink_row(folds):
    """The first one, in Python's order, of the shortest rows that are alike by places."""
    check_folds(folds)
    check_short(folds)
    if len(folds) == 0:
        return ()
    return least_by_steps(folds[0], folds[-1], all_with_sums(told_sums(folds), count_fewest(folds) - 1, None))


def step_lots(folds):
    """The ascending list of all tuples of steps, without 0, that make the same sums; TooMany for too many."""
    check_folds(folds)
    check_short(folds)
    if len(folds) == 0:
        return []
    found = all_with_sums(told_sums(folds), MOST_STEPS, MOST_STEP_LOTS)
    if len(found) > MOST_STEP_LOTS:
        raise TooMany(MOST_STEP_LOTS)
    return found


def count_fewest(folds):
    """The fewest folds of a row, of any integers, that is alike by places to a short one."""
    if len(folds) == 0:
        return 0
    # Each tuple of steps with the same sums leads, with some signs, from the first crease to the last one,
    # since the steps of the row do.
    return 1 + len(fewest_with_sums(told_sums(folds), MOST_STEPS))


def told_sums(folds):
    """The sums of some of the steps of a row of one fold or more, or of none, in ascending order."""
    sums = sums_between(folds)
    # What is added instead of taken away counts twice.
    return tuple([(told - sums[0]) // 2 for told in sums])


def least_by_steps(first, last, many_steps):
    """The first row, in Python's order, that leads from one integer to another one by some of many tuples of
    as many steps."""
    row = [first]
    while len(many_steps[0]) > 0:
        choices = []
        for steps in many_steps:
            choices.extend(first_leading(row[-1], last, steps))
        row.append(min([crease for crease, left in choices]))
        many_steps = sorted(set([left for crease, left in choices if crease == row[-1]]))
    return tuple(row)


def first_leading(crease, last, steps):
    """The list with the least next crease, and the steps left for it, from which some row leads to the last one."""
    for further, left in next_creases(crease, steps):
        if count_between(further, last, left) > 0:
            return [(further, left)]
    return []
