"""Wrong arguments of every kind, alone and two at once, for each argument of each function."""

import copy
import inspect
import unittest

from tests import support
from tests.interface import A, B, FOLDS, FUNCTIONS, LISTS, LOG, NEAR, NO_STRINGS, SHEET, SHEET_ROW
from tests.support import FAR, INTEGERS, STRANGE, STRINGS, TUPLES
from wetfolds import errors
from wetfolds.errors import (
    EmptyLot, FoldError, InvalidCrease, InvalidFolds, InvalidIndex, InvalidLog, InvalidLot, InvalidMove, InvalidNumber,
    InvalidPlace, InvalidPrime, InvalidSheet, InvalidSheetRow, InvalidStretch, InvalidStrip, InvalidText, NoFolds,
    NotInked, TooMany,
)
from wetfolds.folding import drops_at, folded_by, folded_on
from wetfolds.foldtexts import read_folds, read_strip
from wetfolds.formrows import index_of, row_at
from wetfolds.forms import form_of, is_form
from wetfolds.greatestlots import fewest_before
from wetfolds.inkedplaces import inked_by, place_apart_in_ink
from wetfolds.likeprints import first_unlike
from wetfolds.likerows import fewest_folds, least_ink_row, step_lots
from wetfolds.lives import is_log, lived, lived_on
from wetfolds.logforms import are_like_logs, exchanged_deeds, log_form
from wetfolds.lotways import fewest_ways, row_from
from wetfolds.onedrops import count_drop_rows, first_drop_row
from wetfolds.prints import first_way, looked_back, print_of
from wetfolds.rings import are_ring_drops
from wetfolds.rowmoves import is_road, moved_row
from wetfolds.rowways import mirrored_folds, shifted_folds
from wetfolds.sheets import is_sheet, is_sheet_row, sheet_folded
from wetfolds.standins import with_row
from wetfolds.strippings import made_thinner
from wetfolds.strips import are_folds, is_strip, mirrored_strip, moved_strip
from wetfolds.usualcounts import unusual_places, usual_count
from wetfolds.washbacks import washed_from
from wetfolds.washforms import wash_form
from wetfolds.washings import washed_by


def right_values(arguments):
    return [right for right, _ in arguments]


def wrong_values(argument):
    """The pairs of a wrong value of an argument and of the error that it raises."""
    return [(value, error) for values, error in argument[1] for value in values]


def few_wrong(argument):
    """The first, a middle, and the last one of the wrong values of each error."""
    found = []
    for values, error in argument[1]:
        found += [(values[at], error) for at in sorted({0, len(values) // 2, len(values) - 1})]
    return found


class Interface(unittest.TestCase):
    def test_each_function_stands_in_its_file_with_its_parameters(self):
        for function, file, parameters, arguments in FUNCTIONS:
            with self.subTest(function=function.__name__):
                self.assertEqual(function.__module__, "wetfolds." + file)
                self.assertEqual(" ".join(inspect.signature(function).parameters), parameters)
                self.assertEqual(len(arguments), len(parameters.split()))

    def test_right_values_raise_nothing_and_are_left_as_they_are(self):
        for function, _, _, arguments in FUNCTIONS:
            with self.subTest(function=function.__name__):
                values = right_values(arguments)
                kept = copy.deepcopy(values)
                first = function(*values)
                self.assertEqual(values, kept)
                self.assertEqual(function(*values), first)

    def test_lists_are_new_and_nothing_else_is_a_list(self):
        for function, _, _, arguments in FUNCTIONS:
            values = right_values(arguments)
            told = function(*values)
            with self.subTest(function=function.__name__):
                self.assertEqual(isinstance(told, list), function in LISTS)
                if isinstance(told, list):
                    kept = list(told)
                    told.append("more")
                    told[0] = None
                    again = function(*values)
                    self.assertEqual(again, kept)
                    again.clear()
                    self.assertEqual(function(*values), kept)


class WrongArguments(unittest.TestCase):
    def check(self, function, values, error):
        kept = repr(values)
        with self.assertRaises(FoldError) as caught:
            function(*values)
        self.assertIs(caught.exception.__class__, error, (function.__name__, values))
        self.assertEqual(repr(values), kept)

    def test_one_wrong_argument(self):
        for function, _, _, arguments in FUNCTIONS:
            for at, argument in enumerate(arguments):
                for wrong, error in wrong_values(argument):
                    with self.subTest(function=function.__name__, at=at, wrong=repr(wrong)[:80]):
                        values = right_values(arguments)
                        values[at] = wrong
                        self.check(function, values, error)

    def test_two_wrong_arguments_raise_the_error_of_the_first(self):
        for function, _, _, arguments in FUNCTIONS:
            for first in range(len(arguments)):
                for second in range(first + 1, len(arguments)):
                    for wrong, error in few_wrong(arguments[first]):
                        for further, _ in few_wrong(arguments[second]):
                            with self.subTest(function=function.__name__, first=first, second=second):
                                values = right_values(arguments)
                                values[first], values[second] = wrong, further
                                self.check(function, values, error)

    def test_all_arguments_wrong_raise_the_error_of_the_first(self):
        for function, _, _, arguments in FUNCTIONS:
            if all(argument[1] for argument in arguments):
                with self.subTest(function=function.__name__):
                    values = [wrong_values(argument)[0][0] for argument in arguments]
                    self.check(function, values, wrong_values(arguments[0])[0][1])

    def test_no_folds_come_behind_what_is_no_row(self):
        for function in (form_of, index_of, usual_count, unusual_places):
            self.check(function, [()], NoFolds)
            self.check(function, [[]], InvalidFolds)
        for prime in (2, 4, None):
            self.check(wash_form, [(), prime], NoFolds)
            self.check(wash_form, [[], prime], InvalidFolds)
            self.check(washed_from, [A, (), prime], NoFolds)
            self.check(washed_from, [A, [], prime], InvalidFolds)
            self.check(washed_from, [[], (), prime], InvalidStrip)

    def test_empty_lots_and_places_outside_come_in_order(self):
        long_lot = tuple(range(33))
        self.check(fewest_ways, [()], EmptyLot)
        self.check(fewest_ways, [[]], InvalidLot)
        self.check(fewest_ways, [long_lot], TooMany)
        self.check(row_from, [0, ()], EmptyLot)
        self.check(row_from, [FAR, ()], EmptyLot)
        self.check(row_from, [FAR + 1, ()], InvalidPlace)
        self.check(row_from, [FAR + 1, []], InvalidPlace)
        self.check(row_from, [0, []], InvalidLot)
        self.check(row_from, [33, long_lot], NotInked)
        self.check(row_from, [FAR, long_lot], NotInked)
        self.check(row_from, [-1, long_lot], NotInked)
        self.check(row_from, [True, long_lot], InvalidPlace)
        self.check(row_from, [32, long_lot], TooMany)

    def test_rows_that_are_not_short_come_behind_what_is_no_row(self):
        long_row = tuple(range(9))
        for function in (fewest_folds, least_ink_row, step_lots, usual_count, unusual_places):
            self.check(function, [long_row], TooMany)
            self.check(function, [list(long_row)], InvalidFolds)
            self.check(function, [(0,) * 13], InvalidFolds)
        self.check(place_apart_in_ink, [long_row, (0,)], TooMany)
        self.check(place_apart_in_ink, [(0,), long_row], TooMany)
        self.check(place_apart_in_ink, [long_row, long_row], TooMany)
        self.check(place_apart_in_ink, [long_row, [0]], InvalidFolds)
        self.check(place_apart_in_ink, [(True,), long_row], InvalidFolds)

    def test_what_is_no_string_is_wrong_from_the_first_sign_on(self):
        for function in (read_strip, read_folds):
            for wrong in NO_STRINGS:
                with self.assertRaises(InvalidText) as caught:
                    function(wrong)
                self.assertEqual(caught.exception.at, 0)

    def test_too_many_comes_last(self):
        full = (0,) * 12
        self.check(with_row, [full, 0, 0, (1,)], TooMany)
        self.check(with_row, [full, 0, 13, (1,)], InvalidStretch)
        self.check(with_row, [full, 0, 0, [1]], InvalidFolds)
        self.check(with_row, [full + (0,), 0, 0, (1,)], InvalidFolds)
        self.check(shifted_folds, [(10 ** 6,), 1], TooMany)
        self.check(shifted_folds, [(10 ** 6,), FAR + 1], InvalidNumber)
        self.check(mirrored_folds, [(-10 ** 6,), 1], TooMany)
        self.check(mirrored_folds, [(-10 ** 6,), True], InvalidCrease)
        far = tuple((x * 10 ** 6, 1) for x in range(200))
        for function in (folded_by, folded_on):
            self.check(function, [far, tuple(3 ** k for k in range(11))], TooMany)
            self.check(function, [far, tuple(range(13))], InvalidFolds)
            self.check(function, [far, [0] * 11], InvalidFolds)
        many = tuple(3 ** k for k in range(11))
        self.check(first_unlike, [far, far, many], TooMany)
        self.check(first_unlike, [far, (), many], TooMany)
        self.check(first_unlike, [(), far, many], TooMany)
        self.check(first_unlike, [far, [], many], InvalidStrip)
        self.check(first_unlike, [far, far, many + (True,)], InvalidFolds)
        self.check(washed_by, [far, many, 2], TooMany)
        self.check(washed_by, [far, many, 4], InvalidPrime)
        self.check(washed_by, [far, list(many), 2], InvalidFolds)
        apart = ((0, 1), (4001, 1))
        self.check(washed_from, [apart, (0,), 2], TooMany)
        self.check(washed_from, [apart, (0,), True], InvalidPrime)
        self.check(washed_from, [apart, (), 2], NoFolds)
        self.check(washed_from, [apart, (None,), 2], InvalidFolds)
        lot = tuple(x * 300 for x in range(256))
        self.check(inked_by, [lot, many], TooMany)
        self.check(inked_by, [lot, many + (10 ** 6 + 1,)], InvalidFolds)
        self.check(fewest_before, [tuple(range(15)), ()], TooMany)
        self.check(fewest_before, [tuple(range(15)), [14]], InvalidFolds)

    def test_too_many_pairs_of_sheets_and_logs_come_last(self):
        sheet, row = support.long_sheet(200), (("y", 1),) + tuple(("x", 400 * 3 ** k) for k in range(6))
        self.check(sheet_folded, [sheet, row], TooMany)
        self.check(sheet_folded, [sheet, list(row)], InvalidSheetRow)
        self.check(sheet_folded, [sheet + sheet, row], InvalidSheet)
        strip, log = support.long_strip(200), tuple(("fold", 400 * 3 ** k) for k in range(4)) + (("fold", 0),) * 2
        for function in (lived, lived_on):
            self.check(function, [strip, log + (("fold", 20000),)], TooMany)
            self.check(function, [strip, log + (("fold", 20001),)], InvalidLog)
            self.check(function, [strip[::-1], log + (("fold", 20000),)], InvalidStrip)
        many = tuple(("drop", k * 500, 1) for k in range(10)) + tuple(("fold", 3 ** k) for k in range(9))
        far = many + (("fold", 20000), ("fold", -20000), ("fold", 19999))
        self.check(log_form, [far], TooMany)
        self.check(exchanged_deeds, [far], TooMany)
        self.check(are_like_logs, [far, ()], TooMany)
        self.check(are_like_logs, [(), far], TooMany)
        self.check(are_like_logs, [far, (("fold", None),)], InvalidLog)
        self.check(are_like_logs, [list(far), far], InvalidLog)

    def test_indices_of_forms_without_rows(self):
        for index in (-1, 0, 1, None, True):
            self.check(row_at, [(0, 1, (2,)), index], InvalidIndex)

    def test_stretches_of_no_folds(self):
        self.assertEqual(with_row((), 0, 0, (5,)), (5,))
        for begin, end in ((0, 1), (1, 1), (1, 0), (-1, 0), (0, -1)):
            self.check(with_row, [(), begin, end, (5,)], InvalidStretch)

    def test_moves_of_short_rows(self):
        for row in ((), (0,)):
            for move in (("turn", 0, 0), ("turn", 0, 1), ("mirror", 0, 0), ("turn", -1, 0), ("mirror", -1, 0)):
                self.check(moved_row, [row, move], InvalidMove)


class AnyValues(unittest.TestCase):
    EVERYTHING = (
        STRANGE + STRINGS + TUPLES + INTEGERS + support.WRONG_STRIPS + support.WRONG_FOLDS + support.WRONG_FORMS
        + support.WRONG_MOVES + support.WRONG_NEARS + support.WRONG_STEPS + support.WRONG_PRIMES + support.WRONG_LOTS
        + support.WRONG_RINGS + support.WRONG_ENDED_FOLDS + support.WRONG_SPOTS + support.WRONG_SHEETS
        + support.WRONG_SHEET_ROWS + support.WRONG_LOGS + support.WRONG_LOT_NUMBERS + support.WRONG_PRINTS
        + [errors.InvalidStrip("x"), errors.InvalidText(3), FoldError(), (errors.TooMany(3),), ((0, errors.TooMany(3)),)]
    )

    def check(self, function, value, expected, *before):
        kept = repr(value)
        self.assertIs(function(*before, value), expected, (function.__name__, repr(value)[:200]))
        self.assertEqual(repr(value), kept)

    def test_wrong_ones(self):
        for value in support.WRONG_STRIPS:
            self.check(is_strip, value, False)
        for value in support.WRONG_FOLDS:
            self.check(are_folds, value, False)
        for value in support.WRONG_FORMS:
            self.check(is_form, value, False)
        for value in support.WRONG_MOVES:
            self.check(is_road, (value,), False, FOLDS, FOLDS)
            self.check(is_road, (("turn", 0, 1), value), False, FOLDS, FOLDS)
            self.check(is_road, (value, ("turn", 0, 1)), False, FOLDS, FOLDS)
        for value in support.WRONG_RINGS:
            self.check(are_ring_drops, value, False, 3)
        for value in support.WRONG_SHEETS:
            self.check(is_sheet, value, False)
        for value in support.WRONG_SHEET_ROWS:
            self.check(is_sheet_row, value, False)
        for value in support.WRONG_LOGS:
            self.check(is_log, value, False)

    def test_all_are_told_by_true_or_false(self):
        for value in self.EVERYTHING:
            for size in (1, 2, 3, 64):
                self.assertIsInstance(are_ring_drops(size, value), bool)
            for function in (is_strip, are_folds, is_form, is_sheet, is_sheet_row, is_log):
                self.assertIn(function(value), (True, False))
                self.assertIsInstance(function(value), bool)
            self.assertIsInstance(is_road(FOLDS, FOLDS, value), bool)
            # A turn of two folds changes nothing.
            self.assertEqual(is_road(FOLDS, FOLDS, value), repr(value) in ("()", "(('turn', 0, 1),)"))

    def test_strips(self):
        right = [
            (), A, B, ((0, 1),), ((-1, 1), (0, 1), (1, 1)), ((FAR, 1),), ((-FAR, 1),), ((-FAR, 1), (FAR, 1)),
            ((0, support.HUGE),), support.long_strip(200), support.long_strip(199),
        ]
        for value in right:
            self.check(is_strip, value, True)
            self.check(is_strip, list(value), False)

    def test_folds(self):
        right = [
            (), (0,), (10 ** 6,), (-10 ** 6,), (10 ** 6, -10 ** 6), (3, 3, 3), (2, -1), (0,) * 12,
            tuple(range(12)), tuple(range(11)),
        ]
        for value in right:
            self.check(are_folds, value, True)
            self.check(are_folds, list(value), False)

    def test_forms(self):
        right = [
            (0, 0, ()), (0, 1, ()), (10 ** 6, -10 ** 6, ()), (-10 ** 6, 10 ** 6, (0,)), (0, 0, (0,)),
            (0, 5, (2 * 10 ** 6,)), (0, 0, (0,) * 11), (0, 0, tuple(range(11))), (0, 0, (2 * 10 ** 6,) * 11),
            (0, 1, (2,)), (0, 0, (1, 1, 2)),
        ]
        for value in right:
            self.check(is_form, value, True)
            self.check(is_form, list(value), False)

    def test_ring_drops(self):
        right = [(1, (0,)), (1, (FAR,)), (2, (0, 0)), (3, (0, 4, 3)), (3, (FAR, FAR, FAR)), (64, (0,) * 64),
                 (64, tuple(range(64)))]
        for size, value in right:
            self.check(are_ring_drops, value, True, size)
            self.check(are_ring_drops, list(value), False, size)
            self.check(are_ring_drops, value + (0,), False, size)
            self.check(are_ring_drops, value[1:], False, size)

    def test_sheets(self):
        right = [
            (), SHEET, (((0, 0), 1),), (((FAR, -FAR), 1),), (((-FAR, FAR), support.HUGE),), (((0, 0), 1), ((0, 1), 1)),
            (((0, 5), 1), ((1, -5), 1)), support.long_sheet(200), support.long_sheet(199),
        ]
        for value in right:
            self.check(is_sheet, value, True)
            self.check(is_sheet, list(value), False)

    def test_sheet_rows(self):
        right = [
            (), SHEET_ROW, (("less", 10 ** 6),), (("sum", -10 ** 6),), (("x", 10 ** 6), ("y", -10 ** 6)),
            (("x", 0),) * 10, (("less", 1), ("sum", 2)) * 5, (("y", 0),) * 9,
        ]
        for value in right:
            self.check(is_sheet_row, value, True)
            self.check(is_sheet_row, list(value), False)

    def test_logs(self):
        right = [
            (), LOG, (("drop", 10 ** 4, 10 ** 6),), (("drop", -10 ** 4, 1),), (("fold", 2 * 10 ** 4),),
            (("fold", -2 * 10 ** 4),), (("move", 10 ** 4),), (("move", -10 ** 4),), (("move", 0),) * 30,
            (("fold", 0),) * 12, (("fold", 0),) * 12 + (("drop", 0, 1),) * 18, (("drop", 0, 1), ("move", 0)) * 15,
        ]
        for value in right:
            self.check(is_log, value, True)
            self.check(is_log, list(value), False)

    def test_limits_raise_nothing(self):
        top = 10 ** 6
        far = ((-FAR, 1), (FAR, support.HUGE))
        self.assertEqual(moved_strip(far, FAR), ((0, 1), (2 * FAR, support.HUGE)))
        self.assertEqual(moved_strip(far, -FAR), ((-2 * FAR, 1), (0, support.HUGE)))
        self.assertEqual(mirrored_strip(far, top), ((top - FAR, support.HUGE), (top + FAR, 1)))
        self.assertEqual(mirrored_strip(far, -top), ((-top - FAR, support.HUGE), (-top + FAR, 1)))
        self.assertEqual(made_thinner(((0, FAR),), FAR), ((0, 1),))
        self.assertEqual(first_way(FAR, (-top,)), 2 * FAR + top)
        self.assertEqual(first_way(-FAR, (top,)), 2 * FAR + top)
        self.assertEqual(shifted_folds((), FAR), ())
        self.assertEqual(shifted_folds((), -FAR), ())
        self.assertEqual(drops_at(far, (), FAR), support.HUGE)
        self.assertEqual(drops_at(far, (), -FAR), 1)
        self.assertEqual(print_of(-FAR, (top,)), ((-FAR, 1), (top + FAR, 1)))
        self.assertEqual(looked_back(FAR, (-top,)), ((-top - FAR, 1), (FAR, 1)))
        self.assertEqual(count_drop_rows(NEAR, FAR), 0)
        self.assertIsNone(first_drop_row(NEAR, -FAR))


if __name__ == "__main__":
    unittest.main()
