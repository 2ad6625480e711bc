"""Middles and shifts of rows whose ink dries at once, and the row that some prints tell."""

from wetfolds.checks import MOST_FOLDS, check_folds, fits_folds, fits_strip, is_from_to
from wetfolds.drying import FAR_DROP, print_dry
from wetfolds.errors import InvalidLots, InvalidPrints
from wetfolds.forms import count_orders, steps_without

GREATEST_LOT_NUMBER = 10 ** 5
MOST_PRINTS = 8


def middles_and_shifts(folds):
    """The pair of the middles and of the shifts of a row."""
    check_folds(folds)
    return sorted_lots(folds)


def count_dry(folds):
    """How many rows, with creases of any size, have the same middles and the same shifts as a row."""
    check_folds(folds)
    middles, shifts = sorted_lots(folds)
    return count_orders(middles) * count_orders(shifts)


def row_of_lots(middles, shifts):
    """The row whose folds have the middles and the shifts in turn, each from the least one on."""
    if not are_lots(middles, shifts):
        raise InvalidLots("no middles and shifts")
    return row_in_turn(middles, shifts)


def row_told(prints):
    """The row of which told strips are the dry prints of a drop at the place 10 ** 8, at the times 0, 1 .. up to
    how many folds it has; None if there is none."""
    if not are_prints(prints):
        raise InvalidPrints("no prints")
    if prints[0] != ((FAR_DROP, 1),):
        return None
    if len(prints) == 1:
        return ()
    for row in rows_with(prints[1], len(prints) - 1):
        if fits_folds(row) and has_prints(row, prints):
            return row
    return None


def are_lots(middles, shifts):
    """Whether two values are middles and shifts that can be handed in."""
    if not is_lot_of_numbers(middles) or not is_lot_of_numbers(shifts):
        return False
    return len(middles) - len(shifts) in (0, 1) and len(middles) + len(shifts) <= MOST_FOLDS


def is_lot_of_numbers(value):
    """Whether a value is a tuple of integers that are not too great, from the least to the greatest."""
    if not isinstance(value, tuple):
        return False
    if not all([is_from_to(item, -GREATEST_LOT_NUMBER, GREATEST_LOT_NUMBER) for item in value]):
        return False
    return all([number <= further for number, further in zip(value, value[1:])])


def are_prints(value):
    """Whether a value is a tuple of one strip or more, and not too many."""
    if not isinstance(value, tuple) or not 1 <= len(value) <= MOST_PRINTS:
        return False
    return all([fits_strip(item) for item in value])


def sorted_lots(folds):
    """The pair of the middles and of the shifts of a row of any integers."""
    ways = []
    way = 0
    for crease in folds:
        way = crease - way
        ways.append(way)
    return (tuple(sorted(ways[::2])), tuple(sorted(ways[1::2])))


def row_in_turn(middles, shifts):
    """The row whose folds have some middles and some shifts in turn, as they stand."""
    row = []
    before = 0
    for at in range(len(middles) + len(shifts)):
        way = shifts[at // 2] if at % 2 == 1 else middles[at // 2]
        row.append(before + way)
        before = way
    return tuple(row)


def rows_with(strip, many):
    """The list of the rows of so many folds that print, at the time 1, a strip of a drop at the far place."""
    if sum([drops for place, drops in strip]) != many + 1:
        return []
    places = [place for place, drops in strip for _ in range(drops)]
    middles = tuple([place + FAR_DROP for place in places if place < 0])
    # The drop that was there first is none of the shifts, so as a shift of 0 it has to be left out once.
    shifts = tuple([place - FAR_DROP for place in places if place >= 0])
    if 0 not in shifts or len(middles) != (many + 1) // 2:
        return []
    orders = orders_of(steps_without(shifts, 0))
    return [row_in_turn(first, second) for first in orders_of(middles) for second in orders]


def orders_of(numbers):
    """The list of the unlike orders in which some integers can stand."""
    if len(numbers) == 0:
        return [()]
    orders = []
    for number in sorted(set(numbers)):
        orders.extend([(number,) + order for order in orders_of(steps_without(numbers, number))])
    return orders


def has_prints(row, prints):
    """Whether some strips are the dry prints of a drop at the far place, at the times from 0 on."""
    for time, strip in enumerate(prints):
        if print_dry(FAR_DROP, row, time) != strip:
            return False
    return True
