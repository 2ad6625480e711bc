"""Rows of folds that are alike on papers with ends."""

from wetfolds.ends import check_any_length, check_ended_folds

# A place gets at most 2 ** 8 drops of one drop, so it has room for them in so many binary digits.
DIGITS = 10


def alike_ended(folds, others, length):
    """Whether two rows are alike on a paper; a length None is that of a paper without a right end."""
    check_rows(folds, others)
    check_any_length(length)
    return least_telling(folds, others, length) is None


def telling_place(folds, others, length):
    """The least place of a paper at which a drop has unlike ended prints; None if there is none."""
    check_rows(folds, others)
    check_any_length(length)
    return least_telling(folds, others, length)


def alike_at_all(folds, others):
    """Whether two rows are alike at all lengths."""
    check_rows(folds, others)
    return least_length(folds, others) is None


def telling_length(folds, others):
    """The pair of the least length at which two rows are not alike, and of the least telling place on it; None if
    there is none."""
    check_rows(folds, others)
    return least_length(folds, others)


def check_rows(folds, others):
    """Raise InvalidFolds for what are not two rows for papers with ends."""
    check_ended_folds(folds)
    check_ended_folds(others)


def least_length(folds, others):
    """The least length at which two rows are not alike, with the least telling place; None if there is none."""
    for length in range(longest_telling(folds, others) + 1):
        place = least_telling(folds, others, length)
        if place is not None:
            return (length, place)
    return None


def least_telling(folds, others, length):
    """The least place of a paper at which a drop has unlike ended prints; None if there is none."""
    longest = longest_telling(folds, others)
    if length is None or length > longest:
        length = longest
    prints = numbered_prints(folds, length)
    beside = numbered_prints(others, length)
    for place in range(length):
        if prints[place] != beside[place]:
            return place
    return None


def longest_telling(folds, others):
    """A length from which on a greater one tells no more: no crease lays a place of the paper beyond it, and
    drops beyond it stay alone."""
    return max((0,) + folds + others) + 1


def numbered_prints(folds, length):
    """The list of the ended prints of a drop at each place of a paper, each one told as one integer, in which
    the drops of each place stand in digits of their own."""
    prints = [1 << (DIGITS * place) for place in range(length)]
    # By the last folds alone, by one more of them at a time: a drop comes to what comes of it, and of the drop
    # that is laid on its mirror place first.
    for crease in folds[::-1]:
        prints = [prints[place] + print_laid(prints, crease - place) for place in range(length)]
    return prints


def print_laid(prints, place):
    """The numbered print of a drop laid on a place; 0 if it is lost."""
    if 0 <= place < len(prints):
        return prints[place]
    return 0
