"""The forms of rows: first crease, last crease and steps."""

from math import factorial

from wetfolds.checks import GREATEST_CREASE, are_steps, check_some_folds, is_crease
from wetfolds.errors import InvalidForm, TooMany
from wetfolds.prints import steps_between

MOST_ROWS = 1000


def form_of(folds):
    """The form of a row of one fold or more."""
    check_some_folds(folds)
    return form_between(folds)


def is_form(value):
    """Whether any value is a form."""
    if not isinstance(value, tuple) or len(value) != 3:
        return False
    return is_crease(value[0]) and is_crease(value[1]) and are_steps(value[2], 2 * GREATEST_CREASE)


def count_rows(form):
    """How many rows a form has."""
    check_form(form)
    first, last, steps = form
    return count_between(first, last, steps)


def rows_of(form):
    """The ascending list of the rows of a form; TooMany for more than 1000."""
    check_form(form)
    first, last, steps = form
    if count_between(first, last, steps) > MOST_ROWS:
        raise TooMany(MOST_ROWS)
    return rows_between(first, last, steps)


def check_form(value):
    """Raise InvalidForm for what is no form."""
    if not is_form(value):
        raise InvalidForm("no form")


def form_between(folds):
    """The form of a tuple of one integer or more."""
    return (folds[0], folds[-1], steps_between(folds))


def count_between(first, last, steps):
    """How many rows of any integers lead from one to another one by the steps, in any order."""
    # Which signs bring the first one to the last one does not depend on the order of the steps.
    return count_orders(steps) * count_signs(steps).get(last - first, 0)


def count_orders(steps):
    """In how many orders the steps can stand."""
    orders = factorial(len(steps))
    for step in sorted(set(steps)):
        orders //= factorial(steps.count(step))
    return orders


def count_signs(steps):
    """A dict that tells of each sum by how many choices of signs the steps make it; 0 has one sign."""
    ways = {0: 1}
    for step in steps:
        more = {}
        for total, many in ways.items():
            for way in signed_steps(step):
                more[total + way] = more.get(total + way, 0) + many
        ways = more
    return ways


def signed_steps(step):
    """The integers that have a step as their size."""
    if step == 0:
        return (0,)
    return (-step, step)


def steps_without(steps, step):
    """The steps but one that is as told."""
    at = steps.index(step)
    return steps[:at] + steps[at + 1:]


def next_creases(crease, steps):
    """The ascending list of the pairs of a next crease and of the steps that are left for it."""
    found = []
    for step in sorted(set(steps)):
        left = steps_without(steps, step)
        for way in signed_steps(step):
            found.append((crease + way, left))
    return sorted(found)


def rows_between(first, last, steps):
    """The ascending list of the rows of any integers that lead from one to another one by the steps."""
    if len(steps) == 0:
        return [(first,)] if first == last else []
    rows = []
    for crease, left in next_creases(first, steps):
        # Without this test most of the search would go where no row ends.
        if count_between(crease, last, left) > 0:
            rows.extend([(first,) + row for row in rows_between(crease, last, left)])
    return rows
