"""The fewest folds of a row that is alike to a row modulo a prime."""

from wetfolds.checks import check_folds, check_prime
from wetfolds.formrows import row_between
from wetfolds.forms import count_signs, steps_without
from wetfolds.washforms import form_modulo


def fewest_wash(folds, prime):
    """The least number of folds of a tuple that is alike to a row modulo a prime."""
    check_folds(folds)
    check_prime(prime)
    return len(shortest_modulo(folds, prime))


def short_wash(folds, prime):
    """A tuple of so many folds that is alike to a row modulo a prime."""
    check_folds(folds)
    check_prime(prime)
    return shortest_modulo(folds, prime)


def shortest_modulo(folds, prime):
    """A tuple of integers, as short as can be, that is alike to a row modulo a prime."""
    if len(folds) == 0:
        return ()
    form = form_modulo(folds, prime)
    if form == ():
        # All rows with a step 0 wash everything out modulo 2.
        return (folds[0], folds[0])
    first, last, halts, steps = form
    return row_between(first, last, (0,) * halts + fewest_leading(steps, last - first, prime), 0)


def fewest_leading(steps, way, prime):
    """The fewest steps that can be joined to these and make, with some choice of signs, a way."""
    # Each parting makes the same number of steps more, so the first ones that are found are the fewest. The
    # steps of the row itself lead there, so some are found.
    found = leading_ones([steps], way)
    parted = [steps]
    while len(found) == 0:
        parted = parted_once(parted, prime)
        found = leading_ones(parted, way)
    return found[0]


def leading_ones(many_steps, way):
    """Those of many tuples of steps that make, with some choice of signs, a way."""
    return [steps for steps in many_steps if way in count_signs(steps)]


def parted_once(many_steps, prime):
    """The ascending list of the tuples that come of some tuples of steps by parting one step into equal ones."""
    parted = []
    for steps in many_steps:
        for step in sorted(set(steps)):
            if step % prime == 0:
                less = steps_without(steps, step)
                parted.append(tuple(sorted(less + (step // prime,) * prime)))
    return sorted(set(parted))
