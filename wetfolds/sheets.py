"""Sheets of paper: what they are, and folded along, across and aslant."""

from wetfolds.checks import MOST_PAIRS, is_crease, is_place, is_tuple_up_to, is_whole
from wetfolds.errors import InvalidSheet, InvalidSheetRow, InvalidSpot, TooMany
from wetfolds.folding import MOST_FOLDED_PAIRS
from wetfolds.strips import add_strips

WAYS = ("x", "y", "less", "sum")
MOST_SHEET_CREASES = 10


def is_sheet(value):
    """Whether any value is a sheet that can be handed in."""
    if not is_tuple_up_to(value, MOST_PAIRS) or not all([is_sheet_pair(item) for item in value]):
        return False
    return all([here[0] < further[0] for here, further in zip(value, value[1:])])


def is_sheet_row(value):
    """Whether any value is a row of creases of sheets."""
    return is_tuple_up_to(value, MOST_SHEET_CREASES) and all([is_sheet_crease(item) for item in value])


def sheet_folded(sheet, sheet_row):
    """The sheet folded by a sheet row; TooMany if it, or one on the way, has too many pairs."""
    check_sheet(sheet)
    check_sheet_row(sheet_row)
    for crease in sheet_row:
        sheet = fold_sheet(sheet, crease)
        if len(sheet) > MOST_FOLDED_PAIRS:
            raise TooMany(MOST_FOLDED_PAIRS)
    return sheet


def sheet_print(spot, sheet_row):
    """The sheet that comes of one drop at a spot."""
    if not is_spot(spot):
        raise InvalidSpot("no spot")
    check_sheet_row(sheet_row)
    return print_sheet(spot, sheet_row)


def check_sheet(value):
    """Raise InvalidSheet for what is no sheet."""
    if not is_sheet(value):
        raise InvalidSheet("no sheet")


def check_sheet_row(value):
    """Raise InvalidSheetRow for what is no sheet row."""
    if not is_sheet_row(value):
        raise InvalidSheetRow("no row of creases of sheets")


def is_two(value):
    """Whether a value is a tuple of two items."""
    return isinstance(value, tuple) and len(value) == 2


def is_spot(value):
    """Whether a value is a spot that can be handed in."""
    return is_two(value) and is_place(value[0]) and is_place(value[1])


def is_sheet_pair(value):
    """Whether a value is a spot with drops; how many drops has no limit."""
    return is_two(value) and is_spot(value[0]) and is_whole(value[1]) and value[1] >= 1


def is_sheet_crease(value):
    """Whether a value is a crease of a sheet."""
    return is_two(value) and isinstance(value[0], str) and value[0] in WAYS and is_crease(value[1])


def spot_laid(spot, crease):
    """The spot on which a crease lays a spot."""
    x, y = spot
    way, h = crease
    if way == "x":
        return (h - x, y)
    if way == "y":
        return (x, h - y)
    if way == "less":
        return (y + h, x - h)
    return (h - y, h - x)


def fold_sheet(sheet, crease):
    """A sheet of any length, folded at a crease."""
    return add_strips(sheet, tuple([(spot_laid(spot, crease), drops) for spot, drops in sheet]))


def print_sheet(spot, sheet_row):
    """What comes of one drop at a spot."""
    sheet = ((spot, 1),)
    for crease in sheet_row:
        sheet = fold_sheet(sheet, crease)
    return sheet
