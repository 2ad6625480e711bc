"""Rows looked back in a strip: which fold cannot be undone, and of which strips the strip came."""

from wetfolds.checks import check_folds, check_strip
from wetfolds.onedrops import half_without
from wetfolds.strips import mirror_drops, move_drops


def stuck_fold(strip, folds):
    """The index of the fold that cannot be undone when a row is looked back; None if all can be."""
    check_strip(strip)
    check_folds(folds)
    return look_back(strip, folds)[0]


def count_before(strip, folds):
    """Of how many strips a strip came by a row."""
    check_strip(strip)
    check_folds(folds)
    stuck, left = look_back(strip, folds)
    if stuck is not None:
        return 0
    if len(folds) == 0:
        return 1
    return count_ahead_of_fold(left, folds[0])


def strip_before(strip, folds):
    """The one of these strips that lies to the right of the first crease, or on it; None if there is none."""
    check_strip(strip)
    check_folds(folds)
    stuck, left = look_back(strip, folds)
    if stuck is not None:
        return None
    if len(folds) == 0:
        return strip
    return right_ahead_of_fold(left, folds[0])


def look_back(strip, folds):
    """The pair of the index of the fold that cannot be undone, None for none, and of the strip in which it
    cannot be; for None, of the strip that stands behind the first fold."""
    for at in range(len(folds) - 1, 0, -1):
        left = undo_fold(strip, folds[at - 1], folds[at])
        if left is None:
            return at, strip
        strip = left
    if len(folds) > 0 and not comes_of_fold(strip, folds[0]):
        return 0, strip
    return None, strip


def undo_fold(strip, ahead, crease):
    """What is left of a strip when a fold, behind one at the crease ahead, is undone; None if it cannot be."""
    # What is left is its own mirror at the crease ahead, so folding laid to it the same, moved by as much as
    # the creases differ. If the strip is its own mirror, so is what is left, since nothing else is left.
    if mirror_drops(strip, crease) != strip:
        return None
    half = half_without(strip, abs(ahead - crease))
    if half is None:
        return None
    return move_drops(half, max(0, ahead - crease))


def comes_of_fold(strip, crease):
    """Whether a strip came of some strip by one fold."""
    if mirror_drops(strip, crease) != strip:
        return False
    return all([drops % 2 == 0 for place, drops in strip if 2 * place == crease])


def count_ahead_of_fold(strip, crease):
    """Of how many strips a strip came by one fold, if it came of any."""
    count = 1
    for place, drops in strip:
        # The drops at two places that lie on each other can have been any share of theirs at the one of them.
        if 2 * place > crease:
            count *= drops + 1
    return count


def right_ahead_of_fold(strip, crease):
    """The strip with no drop to the left of a crease of which a strip came by a fold at it."""
    right = [(place, drops) for place, drops in strip if 2 * place > crease]
    return tuple([(place, drops // 2) for place, drops in strip if 2 * place == crease] + right)
