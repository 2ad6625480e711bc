"""The rows of a form by their indices, in Python's order."""

from wetfolds.checks import check_some_folds, is_from_to
from wetfolds.errors import InvalidIndex
from wetfolds.forms import check_form, count_between, next_creases, steps_without
from wetfolds.prints import steps_between


def row_at(form, index):
    """The row with an index among the rows of a form."""
    check_form(form)
    first, last, steps = form
    if not is_from_to(index, 0, count_between(first, last, steps) - 1):
        raise InvalidIndex("no index of a row of the form")
    return row_between(first, last, steps, index)


def index_of(folds):
    """The index of a row, of one fold or more, among the rows of its form."""
    check_some_folds(folds)
    steps = steps_between(folds)
    index = 0
    for crease, further in zip(folds, folds[1:]):
        index += count_ahead(crease, further, folds[-1], steps)
        steps = steps_without(steps, abs(further - crease))
    return index


def least_row(form):
    """The first one of the rows of a form; None if there is none."""
    check_form(form)
    first, last, steps = form
    if count_between(first, last, steps) == 0:
        return None
    return row_between(first, last, steps, 0)


def last_row(form):
    """The last one of the rows of a form; None if there is none."""
    check_form(form)
    first, last, steps = form
    many = count_between(first, last, steps)
    if many == 0:
        return None
    return row_between(first, last, steps, many - 1)


def count_ahead(crease, further, last, steps):
    """How many rows go on from a crease by a lesser one than the further one, and lead to the last one."""
    lesser = [(other, left) for other, left in next_creases(crease, steps) if other < further]
    return sum([count_between(other, last, left) for other, left in lesser])


def row_between(first, last, steps, index):
    """The row with an index among those of any integers that lead from one to another one by the steps."""
    row = [first]
    while len(steps) > 0:
        crease, steps, index = step_towards(row[-1], last, steps, index)
        row.append(crease)
    return tuple(row)


def step_towards(crease, last, steps, index):
    """The next crease of the row with an index, the steps left then, and its index among the rows from there."""
    choices = next_creases(crease, steps)
    at = 0
    many = count_between(choices[at][0], last, choices[at][1])
    while index >= many:
        index -= many
        at += 1
        many = count_between(choices[at][0], last, choices[at][1])
    return choices[at][0], choices[at][1], index
