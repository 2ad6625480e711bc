"""Strips told apart but for moving and mirroring."""

from wetfolds.checks import check_strip
from wetfolds.strips import mirror_drops, move_drops


def plain_strip(strip):
    """The plain strip of a strip."""
    check_strip(strip)
    if len(strip) == 0:
        return ()
    least, greatest = strip[0][0], strip[-1][0]
    return min(move_drops(strip, -least), mirror_drops(strip, greatest))


def way_between(strip, other):
    """The way from one strip to another one, or None."""
    check_strip(strip)
    check_strip(other)
    if len(strip) != len(other):
        return None
    if len(strip) == 0:
        return ("moved", 0)
    by = other[0][0] - strip[0][0]
    if move_drops(strip, by) == other:
        return ("moved", by)
    h = other[0][0] + strip[-1][0]
    if mirror_drops(strip, h) == other:
        return ("mirrored", h)
    return None
