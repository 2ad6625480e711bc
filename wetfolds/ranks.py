"""Tables of rows on short papers, their ranks, and strips of which the same strip comes."""

from math import gcd

from wetfolds.ends import check_ended_folds, check_length, print_ended

GREATEST_TABLE_LENGTH = 24


def ended_table(folds, length):
    """The table of a row on a paper: for each place the tuple of the drops at each place of its ended print."""
    check_table(folds, length)
    return table_by(folds, length)


def rank_on(folds, length):
    """The rank of the table of a row on a paper."""
    check_table(folds, length)
    rank, _ = rank_and_multiples(table_by(folds, length))
    return rank


def two_to_one(folds, length):
    """A pair of two unlike strips on a paper of which the same strip comes; None if there is none."""
    check_table(folds, length)
    _, multiples = rank_and_multiples(table_by(folds, length))
    if multiples is None:
        return None
    some = [(place, many) for place, many in enumerate(multiples) if many > 0]
    others = [(place, -many) for place, many in enumerate(multiples) if many < 0]
    return (tuple(some), tuple(others))


def check_table(folds, length):
    """Raise the errors of a row on a paper that is short enough for a table."""
    check_ended_folds(folds)
    check_length(length, GREATEST_TABLE_LENGTH)


def table_by(folds, length):
    """The table of a row on a paper."""
    prints = [dict(print_ended(place, folds, length)) for place in range(length)]
    return tuple([tuple([drops.get(place, 0) for place in range(length)]) for drops in prints])


def rank_and_multiples(table):
    """The rank of a table, and a list of a multiple for each of its tuples, not all of them 0, that are together
    a tuple of 0 alone; None if there is none."""
    kept = []
    multiples = None
    for at, drops in enumerate(table):
        # Behind the drops stands of which multiples of the tuples they are made.
        row = list(drops) + [int(at == other) for other in range(len(table))]
        for pivot, above in kept:
            row = without_pivot(row, above, pivot)
        pivot = first_other_than_0(row)
        if pivot < len(table):
            kept.append((pivot, row))
        else:
            multiples = row[len(table):]
    return len(kept), multiples


def without_pivot(row, above, pivot):
    """A multiple of a row of integers and of another one, together, that has 0 where the other one has not; as
    small as can be."""
    mixed = [above[pivot] * here - row[pivot] * there for here, there in zip(row, above)]
    divisor = 0
    for number in mixed:
        divisor = gcd(divisor, number)
    return [number // divisor for number in mixed]


def first_other_than_0(row):
    """The index of the first integer of a row that is not 0."""
    at = 0
    while row[at] == 0:
        at += 1
    return at
