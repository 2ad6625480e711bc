"""Shares: of which drops those at a place come at last."""

from wetfolds.checks import check_place, check_strip
from wetfolds.folding import fold_once
from wetfolds.lives import check_log
from wetfolds.strips import move_drops

OF_THE_STRIP = -1


def shares_at(strip, log, place):
    """The shares at a place of a strip that lives by a log."""
    check_strip(strip)
    check_log(log)
    check_place(place)
    shares = []
    # How many drops come at last to the place of one drop at each place, ahead of the deeds gone back over.
    often = ((place, 1),)
    for index in range(len(log) - 1, -1, -1):
        deed = log[index]
        if deed[0] == "drop":
            shares.append((index, drops_come(((deed[1], deed[2]),), often)))
        else:
            often = gone_back(often, deed)
    shares.append((OF_THE_STRIP, drops_come(strip, often)))
    return tuple(sorted([share for share in shares if share[1] > 0]))


def gone_back(often, deed):
    """How many drops come of one drop at each place, ahead of a fold or a move, if it is told behind it."""
    if deed[0] == "fold":
        return fold_once(often, deed[1])
    return move_drops(often, -deed[1])


def drops_come(strip, often):
    """How many drops come of a strip, if it is told of one drop at each place."""
    table = dict(often)
    return sum([drops * table.get(place, 0) for place, drops in strip])
