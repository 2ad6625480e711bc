"""Strips that came of some strip by rows with told steps."""

from wetfolds.checks import GREATEST_CREASE, are_steps
from wetfolds.errors import InvalidSteps
from wetfolds.foldbacks import comes_of_fold
from wetfolds.forms import count_orders, count_signs
from wetfolds.onedrops import check_near, half_without, last_crease_to


def rest_by(near, steps):
    """The rest of a strip by told steps; None if there is none."""
    check_near(near)
    check_steps(steps)
    return rest_without(near, steps)


def first_creases(near, steps):
    """The ascending tuple of the first creases of all rows with told steps by which a strip came of some strip."""
    check_near(near)
    check_steps(steps)
    if not comes_by_steps(near, steps):
        return ()
    # The last crease is the same in all these rows, and the steps lead to it with any choice of signs.
    last = last_crease_to(near)
    return tuple(sorted([last + way for way in count_signs(steps)]))


def count_step_rows(near, steps):
    """How many such rows there are."""
    check_near(near)
    check_steps(steps)
    if not comes_by_steps(near, steps):
        return 0
    return count_orders(steps) * sum(count_signs(steps).values())


def last_crease(near):
    """The crease such that a strip came of some strip by one fold at it; None if there is none."""
    check_near(near)
    if not comes_by_steps(near, ()):
        return None
    return last_crease_to(near)


def last_steps(near):
    """The ascending tuple of the steps of all rows of two folds by which a strip came of some strip."""
    check_near(near)
    # The least drops, moved by the step, lie at a place of the strip.
    ways = [place - near[0][0] for place, drops in near]
    return tuple([way for way in ways if comes_by_steps(near, (way,))])


def check_steps(value):
    """Raise InvalidSteps for what is no told steps."""
    if not are_steps(value, GREATEST_CREASE):
        raise InvalidSteps("no told steps")


def rest_without(strip, steps):
    """The rest of a strip with one drop or more by any steps; None if there is none."""
    for step in steps:
        strip = half_without(strip, step)
        if strip is None:
            return None
    return strip


def comes_by_steps(strip, steps):
    """Whether a strip came of some strip by rows with these steps."""
    # Behind its first fold such a row only lays together the strip there is and the same one moved, so the
    # rest is the strip behind the first fold, but for moving.
    rest = rest_without(strip, steps)
    return rest is not None and comes_of_fold(rest, last_crease_to(rest))
