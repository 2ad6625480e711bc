"""Lengths of papers at which no drop goes out at the right end and comes back."""

from wetfolds.ends import GREATEST_LENGTH, check_ended_folds, check_length


def is_good_length(folds, length):
    """Whether a length is good for a row."""
    check_ended_folds(folds)
    check_length(length, GREATEST_LENGTH)
    return walk_between(folds, length) is None


def bad_lengths(folds):
    """The ascending list of all lengths that are bad for a row."""
    check_ended_folds(folds)
    return bad_between(folds)


def good_from(folds):
    """The least length from which on all lengths are good for a row."""
    check_ended_folds(folds)
    return max([0] + [length + 1 for length in bad_between(folds)])


def out_and_back(folds, length):
    """A walk that goes out and back for a length; None if there is none."""
    check_ended_folds(folds)
    check_length(length, GREATEST_LENGTH)
    return walk_between(folds, length)


def bad_between(folds):
    """The ascending list of all lengths that are bad for a row."""
    # All lengths above the greatest crease are good.
    return [length for length in range(max((0,) + folds) + 1) if walk_between(folds, length) is not None]


def walk_between(folds, length):
    """A walk that goes out and back for a length; None if there is none."""
    # Of the walks to a place, one that was out and one that was not are enough.
    walks = {(place, False): (place,) for place in range(length)}
    for crease in folds:
        walks = walks_on(walks, crease, length)
    for place in range(length):
        if (place, True) in walks:
            return walks[(place, True)]
    return None


def walks_on(walks, crease, length):
    """The walks gone on by one fold, each under its last place and under whether it was out."""
    further = {}
    for (place, was_out), walk in walks.items():
        further[(place, was_out)] = walk + (place,)
        there = crease - place
        if there >= 0:
            further[(there, was_out or there >= length)] = walk + (there,)
    return further
