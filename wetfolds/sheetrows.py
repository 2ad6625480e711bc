"""Rows of creases of sheets: which creases can be exchanged, and which rows do the same."""

from math import comb

from wetfolds.checks import check_number
from wetfolds.errors import InvalidSheetRow
from wetfolds.forms import count_between
from wetfolds.prints import steps_between
from wetfolds.sheets import check_sheet_row, print_sheet

# Sheet rows that print the same of one drop here do the same to all sheets.
FAR_SPOT = (10 ** 9, 3 * 10 ** 8)
AT_RIGHT_ANGLES = (("x", "y"), ("y", "x"), ("less", "sum"), ("sum", "less"))
STRAIGHT_WAYS = ("x", "y")


def can_exchange(sheet_row, one, two):
    """Whether two creases of a sheet row, told by their indices, can be exchanged by themselves."""
    check_sheet_row(sheet_row)
    check_number(one, 0, len(sheet_row) - 1)
    check_number(two, 0, len(sheet_row) - 1)
    crease = sheet_row[one]
    other = sheet_row[two]
    return crease == other or (crease[0], other[0]) in AT_RIGHT_ANGLES


def same_on_sheets(sheet_row, beside):
    """Whether two sheet rows do the same to all sheets."""
    check_sheet_row(sheet_row)
    check_sheet_row(beside)
    return print_sheet(FAR_SPOT, sheet_row) == print_sheet(FAR_SPOT, beside)


def sheet_parting(sheet_row, beside):
    """A spot of which one drop comes to unlike sheets by two sheet rows; None if there is none."""
    if same_on_sheets(sheet_row, beside):
        return None
    return FAR_SPOT


def straight_form(sheet_row):
    """The straight form of a straight sheet row."""
    check_straight(sheet_row)
    return form_straight(sheet_row)


def count_straight(sheet_row):
    """How many straight rows, with integers of any size, have the straight form of a straight sheet row."""
    check_straight(sheet_row)
    along, across, halts = form_straight(sheet_row)
    count = 0
    for many in range(halts + 1):
        # How the rows of both ways are shuffled into one is told by where those of one way stand.
        shuffles = comb(len(sheet_row), length_with(along, many))
        count += shuffles * count_with(along, many) * count_with(across, halts - many)
    return count


def check_straight(sheet_row):
    """Raise InvalidSheetRow for what is no straight sheet row."""
    check_sheet_row(sheet_row)
    if not all([way in STRAIGHT_WAYS for way, h in sheet_row]):
        raise InvalidSheetRow("not straight")


def form_straight(sheet_row):
    """The straight form of a straight sheet row."""
    rows = [tuple([h for other, h in sheet_row if other == way]) for way in STRAIGHT_WAYS]
    halts = sum([steps_between(row).count(0) for row in rows])
    return (part_straight(rows[0]), part_straight(rows[1]), halts)


def part_straight(row):
    """What a straight form tells of the integers of one way; None for none."""
    if len(row) == 0:
        return None
    return (row[0], row[-1], tuple([step for step in steps_between(row) if step > 0]))


def length_with(part, halts):
    """How many creases of one way have a part of a straight form and so many steps 0."""
    if part is None:
        return 0
    return 1 + len(part[2]) + halts


def count_with(part, halts):
    """How many rows of integers of one way have a part of a straight form and so many steps 0."""
    if part is None:
        return int(halts == 0)
    first, last, steps = part
    return count_between(first, last, (0,) * halts + steps)
