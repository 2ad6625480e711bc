"""Strips that came of one drop: their parts, and the rows that bring one drop to them."""

from wetfolds.checks import check_place, fits_strip
from wetfolds.errors import InvalidStrip
from wetfolds.formrows import row_between
from wetfolds.forms import count_between
from wetfolds.strippings import divide_drops
from wetfolds.strips import add_strips, move_drops, strip_from

FARTHEST_NEAR_PLACE = 10 ** 5
MOST_PARTS = 12


def parts_of(near):
    """The parts of a strip; None if it has none."""
    check_near(near)
    return find_parts(near)


def drop_places(near):
    """The ascending tuple of the places from which one drop can be brought to a strip."""
    check_near(near)
    if find_parts(near) is None:
        return ()
    return tuple([place for place, drops in near])


def count_drop_rows(near, place):
    """How many rows bring one drop at a place to a strip."""
    check_near(near)
    check_place(place)
    parts = find_parts(near)
    if parts is None:
        return 0
    # The parts of a print are the steps of the row and the first way, by which twice the place and the first
    # crease differ. So the rows are those that lead by the parts from twice the place to the last crease, each
    # without its beginning, which is no fold.
    return count_between(2 * place, last_crease_to(near), parts)


def first_drop_row(near, place):
    """The first one, in Python's order, of these rows; None if there is none."""
    check_near(near)
    check_place(place)
    parts = find_parts(near)
    if parts is None or count_between(2 * place, last_crease_to(near), parts) == 0:
        return None
    return row_between(2 * place, last_crease_to(near), parts, 0)[1:]


def is_near(value):
    """Whether a value is a near strip."""
    if not fits_strip(value) or len(value) == 0:
        return False
    return -FARTHEST_NEAR_PLACE <= value[0][0] and value[-1][0] <= FARTHEST_NEAR_PLACE


def check_near(value):
    """Raise InvalidStrip for what is no near strip."""
    if not is_near(value):
        raise InvalidStrip("no near strip")


def find_parts(strip):
    """The parts of a strip with one drop or more; None if it has none."""
    parts = []
    while len(strip) > 1:
        # The least part other than 0 makes the place that comes next behind the least one.
        part = strip[1][0] - strip[0][0]
        strip = half_without(strip, part)
        if strip is None:
            return None
        parts.append(part)
    halts = count_halvings(strip[0][1])
    if halts is None or halts + len(parts) > MOST_PARTS:
        return None
    return (0,) * halts + tuple(parts)


def half_without(strip, part):
    """The strip that makes this one when it, and it moved by the part, are laid together; None if none does."""
    if part == 0:
        return divide_drops(strip, 2)
    left = {}
    for place, drops in strip:
        rest = drops - left.get(place - part, 0)
        if rest > 0:
            left[place] = rest
    half = strip_from(left)
    # Moved drops of the half can be more than the strip has at their places; that shows only here.
    if add_strips(half, move_drops(half, part)) != strip:
        return None
    return half


def count_halvings(number):
    """How often a positive number can be halved to 1; None if it cannot."""
    halvings = number.bit_length() - 1
    if number != 1 << halvings:
        return None
    return halvings


def last_crease_to(strip):
    """The only integer at which both sides of a strip can be alike."""
    return strip[0][0] + strip[-1][0]
