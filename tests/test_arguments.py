"""Wrong arguments of every kind, alone and two at once, for each argument of each function."""

import copy
import inspect
import unittest

from tests import support
from tests.support import FAR, INTEGERS, STRANGE, STRINGS, TUPLES, wrong_integers
from wetfolds import errors
from wetfolds.alikerows import doublings, exchange_places, parting_place, rows_alike
from wetfolds.errors import (
    FoldError, InvalidCrease, InvalidFolds, InvalidForm, InvalidIndex, InvalidMove, InvalidNumber, InvalidPlace,
    InvalidStretch, InvalidStrip, InvalidText, NoFolds, TooMany,
)
from wetfolds.folding import drops_at, folded, folded_by, folded_on
from wetfolds.foldtexts import folds_text, read_folds, read_strip, strip_text
from wetfolds.formrows import index_of, last_row, least_row, row_at
from wetfolds.forms import count_rows, form_of, is_form, rows_of
from wetfolds.onedrops import count_drop_rows, drop_places, first_drop_row, parts_of
from wetfolds.plainstrips import plain_strip, way_between
from wetfolds.prints import first_way, looked_back, print_of, reaches_of, steps_of
from wetfolds.rowmoves import is_road, moved_row, road_between
from wetfolds.rownumbers import count_folds, folds_at, folds_number
from wetfolds.rowways import folds_between, mirrored_folds, plain_folds, shifted_folds
from wetfolds.standins import places_for, with_row
from wetfolds.strippings import common_drops, made_thinner, taken_away, thinnest_by
from wetfolds.strips import are_folds, first_place, is_strip, laid_together, mirrored_strip, moved_strip, total_of

A = ((0, 1), (3, 2))
B = ((-2, 5), (3, 1))
FOLDS = (0, 1, 3, 0)
FORM = (0, 6, (2, 4))
NEAR = ((-2, 1), (0, 2), (2, 1))

# An argument is a right value and a tuple of pairs: wrong values, and the error that each of them raises.
STRIP = (A, ((support.WRONG_STRIPS, InvalidStrip),))
OTHER = (B, ((support.WRONG_STRIPS, InvalidStrip),))
ROW = (FOLDS, ((support.WRONG_FOLDS, InvalidFolds),))
BESIDE = ((0, 3, 1, 0), ((support.WRONG_FOLDS, InvalidFolds),))
SOME_ROW = (FOLDS, ((support.WRONG_FOLDS, InvalidFolds), ([()], NoFolds)))
CREASE = (1, ((wrong_integers(-10 ** 6, 10 ** 6), InvalidCrease),))
PLACE = (2, ((wrong_integers(-FAR, FAR), InvalidPlace),))
BY = (3, ((wrong_integers(-FAR, FAR), InvalidNumber),))
THINNER = (1, ((wrong_integers(1, FAR), InvalidNumber),))
MANY = (2, ((wrong_integers(0, 12), InvalidNumber),))
MOST = (1, ((wrong_integers(0, 10 ** 6), InvalidNumber),))
NUMBER = (3, ((wrong_integers(0, 8), InvalidNumber),))
A_FORM = (FORM, ((support.WRONG_FORMS, InvalidForm),))
INDEX = (1, ((wrong_integers(0, 1), InvalidIndex),))
MOVE = (("turn", 0, 2), ((support.WRONG_MOVES, InvalidMove),))
BEGIN = (1, ((wrong_integers(0, 4) + [3, 4], InvalidStretch),))
END = (2, ((wrong_integers(0, 4) + [0], InvalidStretch),))
STANDS_IN = ((5,), ((support.WRONG_FOLDS, InvalidFolds),))
A_NEAR = (NEAR, ((support.WRONG_NEARS, InvalidStrip),))
NO_STRINGS = STRANGE + TUPLES + INTEGERS + [["0:1"], ("0:1",)]
STRIP_SAID = ("0:1 3:2", ((NO_STRINGS, InvalidText),))
ROW_SAID = ("1 -1/2 7/2", ((NO_STRINGS, InvalidText),))

# Each function of the interface with its file, its parameters as the document writes them, and its arguments.
FUNCTIONS = [
    (total_of, "strips", "strip", [STRIP]),
    (laid_together, "strips", "strip other", [STRIP, OTHER]),
    (moved_strip, "strips", "strip by", [STRIP, BY]),
    (mirrored_strip, "strips", "strip crease", [STRIP, CREASE]),
    (first_place, "strips", "strip", [STRIP]),
    (folded, "folding", "strip crease", [STRIP, CREASE]),
    (folded_by, "folding", "strip folds", [STRIP, ROW]),
    (folded_on, "folding", "strip folds", [STRIP, ROW]),
    (drops_at, "folding", "strip folds place", [STRIP, ROW, PLACE]),
    (steps_of, "prints", "folds", [ROW]),
    (first_way, "prints", "place folds", [PLACE, ROW]),
    (print_of, "prints", "place folds", [PLACE, ROW]),
    (reaches_of, "prints", "place folds", [PLACE, ROW]),
    (looked_back, "prints", "place folds", [PLACE, ROW]),
    (plain_strip, "plainstrips", "strip", [STRIP]),
    (way_between, "plainstrips", "strip other", [STRIP, OTHER]),
    (taken_away, "strippings", "strip other", [STRIP, OTHER]),
    (common_drops, "strippings", "strip other", [STRIP, OTHER]),
    (made_thinner, "strippings", "strip number", [STRIP, THINNER]),
    (thinnest_by, "strippings", "strip", [STRIP]),
    (shifted_folds, "rowways", "folds by", [ROW, BY]),
    (mirrored_folds, "rowways", "folds crease", [ROW, CREASE]),
    (plain_folds, "rowways", "folds", [ROW]),
    (folds_between, "rowways", "folds other", [ROW, BESIDE]),
    (strip_text, "foldtexts", "strip", [STRIP]),
    (folds_text, "foldtexts", "folds", [ROW]),
    (read_strip, "foldtexts", "text", [STRIP_SAID]),
    (read_folds, "foldtexts", "text", [ROW_SAID]),
    (count_folds, "rownumbers", "many most", [MANY, MOST]),
    (folds_at, "rownumbers", "many most number", [MANY, MOST, NUMBER]),
    (folds_number, "rownumbers", "folds most", [ROW, MOST]),
    (form_of, "forms", "folds", [SOME_ROW]),
    (count_rows, "forms", "form", [A_FORM]),
    (rows_of, "forms", "form", [A_FORM]),
    (row_at, "formrows", "form index", [A_FORM, INDEX]),
    (index_of, "formrows", "folds", [SOME_ROW]),
    (least_row, "formrows", "form", [A_FORM]),
    (last_row, "formrows", "form", [A_FORM]),
    (rows_alike, "alikerows", "folds beside", [ROW, BESIDE]),
    (parting_place, "alikerows", "folds beside", [ROW, BESIDE]),
    (doublings, "alikerows", "folds beside", [ROW, BESIDE]),
    (exchange_places, "alikerows", "folds", [ROW]),
    (moved_row, "rowmoves", "folds move", [ROW, MOVE]),
    (road_between, "rowmoves", "folds beside", [ROW, BESIDE]),
    (is_road, "rowmoves", "folds beside value", [ROW, BESIDE, ((("turn", 0, 3),), ())]),
    (with_row, "standins", "folds begin end beside", [ROW, BEGIN, END, STANDS_IN]),
    (places_for, "standins", "folds beside", [ROW, STANDS_IN]),
    (parts_of, "onedrops", "near", [A_NEAR]),
    (drop_places, "onedrops", "near", [A_NEAR]),
    (count_drop_rows, "onedrops", "near place", [A_NEAR, PLACE]),
    (first_drop_row, "onedrops", "near place", [A_NEAR, PLACE]),
    (is_strip, "strips", "value", [(A, ())]),
    (are_folds, "strips", "value", [(FOLDS, ())]),
    (is_form, "forms", "value", [(FORM, ())]),
]

# The functions that return lists.
LISTS = (folded_on, rows_of, places_for)


def right_values(arguments):
    return [right for right, _ in arguments]


def wrong_values(argument):
    """The pairs of a wrong value of an argument and of the error that it raises."""
    return [(value, error) for values, error in argument[1] for value in values]


def few_wrong(argument):
    """The first, a middle, and the last one of the wrong values of each error."""
    found = []
    for values, error in argument[1]:
        found += [(values[at], error) for at in sorted({0, len(values) // 2, len(values) - 1})]
    return found


class Interface(unittest.TestCase):
    def test_each_function_stands_in_its_file_with_its_parameters(self):
        for function, file, parameters, arguments in FUNCTIONS:
            with self.subTest(function=function.__name__):
                self.assertEqual(function.__module__, "wetfolds." + file)
                self.assertEqual(" ".join(inspect.signature(function).parameters), parameters)
                self.assertEqual(len(arguments), len(parameters.split()))

    def test_right_values_raise_nothing_and_are_left_as_they_are(self):
        for function, _, _, arguments in FUNCTIONS:
            with self.subTest(function=function.__name__):
                values = right_values(arguments)
                kept = copy.deepcopy(values)
                first = function(*values)
                self.assertEqual(values, kept)
                self.assertEqual(function(*values), first)

    def test_lists_are_new_and_nothing_else_is_a_list(self):
        for function, _, _, arguments in FUNCTIONS:
            values = right_values(arguments)
            told = function(*values)
            with self.subTest(function=function.__name__):
                self.assertEqual(isinstance(told, list), function in LISTS)
                if isinstance(told, list):
                    kept = list(told)
                    told.append("more")
                    told[0] = None
                    again = function(*values)
                    self.assertEqual(again, kept)
                    again.clear()
                    self.assertEqual(function(*values), kept)


class WrongArguments(unittest.TestCase):
    def check(self, function, values, error):
        kept = repr(values)
        with self.assertRaises(FoldError) as caught:
            function(*values)
        self.assertIs(caught.exception.__class__, error, (function.__name__, values))
        self.assertEqual(repr(values), kept)

    def test_one_wrong_argument(self):
        for function, _, _, arguments in FUNCTIONS:
            for at, argument in enumerate(arguments):
                for wrong, error in wrong_values(argument):
                    with self.subTest(function=function.__name__, at=at, wrong=repr(wrong)[:80]):
                        values = right_values(arguments)
                        values[at] = wrong
                        self.check(function, values, error)

    def test_two_wrong_arguments_raise_the_error_of_the_first(self):
        for function, _, _, arguments in FUNCTIONS:
            for first in range(len(arguments)):
                for second in range(first + 1, len(arguments)):
                    for wrong, error in few_wrong(arguments[first]):
                        for further, _ in few_wrong(arguments[second]):
                            with self.subTest(function=function.__name__, first=first, second=second):
                                values = right_values(arguments)
                                values[first], values[second] = wrong, further
                                self.check(function, values, error)

    def test_all_arguments_wrong_raise_the_error_of_the_first(self):
        for function, _, _, arguments in FUNCTIONS:
            if all(argument[1] for argument in arguments):
                with self.subTest(function=function.__name__):
                    values = [wrong_values(argument)[0][0] for argument in arguments]
                    self.check(function, values, wrong_values(arguments[0])[0][1])

    def test_no_folds_come_behind_what_is_no_row(self):
        for function in (form_of, index_of):
            self.check(function, [()], NoFolds)
            self.check(function, [[]], InvalidFolds)

    def test_what_is_no_string_is_wrong_from_the_first_sign_on(self):
        for function in (read_strip, read_folds):
            for wrong in NO_STRINGS:
                with self.assertRaises(InvalidText) as caught:
                    function(wrong)
                self.assertEqual(caught.exception.at, 0)

    def test_too_many_comes_last(self):
        full = (0,) * 12
        self.check(with_row, [full, 0, 0, (1,)], TooMany)
        self.check(with_row, [full, 0, 13, (1,)], InvalidStretch)
        self.check(with_row, [full, 0, 0, [1]], InvalidFolds)
        self.check(with_row, [full + (0,), 0, 0, (1,)], InvalidFolds)
        self.check(shifted_folds, [(10 ** 6,), 1], TooMany)
        self.check(shifted_folds, [(10 ** 6,), FAR + 1], InvalidNumber)
        self.check(mirrored_folds, [(-10 ** 6,), 1], TooMany)
        self.check(mirrored_folds, [(-10 ** 6,), True], InvalidCrease)
        far = tuple((x * 10 ** 6, 1) for x in range(200))
        for function in (folded_by, folded_on):
            self.check(function, [far, tuple(3 ** k for k in range(11))], TooMany)
            self.check(function, [far, tuple(range(13))], InvalidFolds)
            self.check(function, [far, [0] * 11], InvalidFolds)

    def test_indices_of_forms_without_rows(self):
        for index in (-1, 0, 1, None, True):
            self.check(row_at, [(0, 1, (2,)), index], InvalidIndex)

    def test_stretches_of_no_folds(self):
        self.assertEqual(with_row((), 0, 0, (5,)), (5,))
        for begin, end in ((0, 1), (1, 1), (1, 0), (-1, 0), (0, -1)):
            self.check(with_row, [(), begin, end, (5,)], InvalidStretch)

    def test_moves_of_short_rows(self):
        for row in ((), (0,)):
            for move in (("turn", 0, 0), ("turn", 0, 1), ("mirror", 0, 0), ("turn", -1, 0), ("mirror", -1, 0)):
                self.check(moved_row, [row, move], InvalidMove)


class AnyValues(unittest.TestCase):
    EVERYTHING = (
        STRANGE + STRINGS + TUPLES + INTEGERS + support.WRONG_STRIPS + support.WRONG_FOLDS + support.WRONG_FORMS
        + support.WRONG_MOVES + support.WRONG_NEARS
        + [errors.InvalidStrip("x"), errors.InvalidText(3), FoldError(), (errors.TooMany(3),), ((0, errors.TooMany(3)),)]
    )

    def check(self, function, value, expected, *before):
        kept = repr(value)
        self.assertIs(function(*before, value), expected, (function.__name__, repr(value)[:200]))
        self.assertEqual(repr(value), kept)

    def test_wrong_ones(self):
        for value in support.WRONG_STRIPS:
            self.check(is_strip, value, False)
        for value in support.WRONG_FOLDS:
            self.check(are_folds, value, False)
        for value in support.WRONG_FORMS:
            self.check(is_form, value, False)
        for value in support.WRONG_MOVES:
            self.check(is_road, (value,), False, FOLDS, FOLDS)
            self.check(is_road, (("turn", 0, 1), value), False, FOLDS, FOLDS)
            self.check(is_road, (value, ("turn", 0, 1)), False, FOLDS, FOLDS)

    def test_all_are_told_by_true_or_false(self):
        for value in self.EVERYTHING:
            for function in (is_strip, are_folds, is_form):
                self.assertIn(function(value), (True, False))
                self.assertIsInstance(function(value), bool)
            self.assertIsInstance(is_road(FOLDS, FOLDS, value), bool)
            self.assertEqual(is_road(FOLDS, FOLDS, value), value == () and isinstance(value, tuple))

    def test_strips(self):
        right = [
            (), A, B, ((0, 1),), ((-1, 1), (0, 1), (1, 1)), ((FAR, 1),), ((-FAR, 1),), ((-FAR, 1), (FAR, 1)),
            ((0, support.HUGE),), support.long_strip(200), support.long_strip(199),
        ]
        for value in right:
            self.check(is_strip, value, True)
            self.check(is_strip, list(value), False)

    def test_folds(self):
        right = [
            (), (0,), (10 ** 6,), (-10 ** 6,), (10 ** 6, -10 ** 6), (3, 3, 3), (2, -1), (0,) * 12,
            tuple(range(12)), tuple(range(11)),
        ]
        for value in right:
            self.check(are_folds, value, True)
            self.check(are_folds, list(value), False)

    def test_forms(self):
        right = [
            (0, 0, ()), (0, 1, ()), (10 ** 6, -10 ** 6, ()), (-10 ** 6, 10 ** 6, (0,)), (0, 0, (0,)),
            (0, 5, (2 * 10 ** 6,)), (0, 0, (0,) * 11), (0, 0, tuple(range(11))), (0, 0, (2 * 10 ** 6,) * 11),
            (0, 1, (2,)), (0, 0, (1, 1, 2)),
        ]
        for value in right:
            self.check(is_form, value, True)
            self.check(is_form, list(value), False)

    def test_limits_raise_nothing(self):
        top = 10 ** 6
        far = ((-FAR, 1), (FAR, support.HUGE))
        self.assertEqual(moved_strip(far, FAR), ((0, 1), (2 * FAR, support.HUGE)))
        self.assertEqual(moved_strip(far, -FAR), ((-2 * FAR, 1), (0, support.HUGE)))
        self.assertEqual(mirrored_strip(far, top), ((top - FAR, support.HUGE), (top + FAR, 1)))
        self.assertEqual(mirrored_strip(far, -top), ((-top - FAR, support.HUGE), (-top + FAR, 1)))
        self.assertEqual(made_thinner(((0, FAR),), FAR), ((0, 1),))
        self.assertEqual(first_way(FAR, (-top,)), 2 * FAR + top)
        self.assertEqual(first_way(-FAR, (top,)), 2 * FAR + top)
        self.assertEqual(shifted_folds((), FAR), ())
        self.assertEqual(shifted_folds((), -FAR), ())
        self.assertEqual(drops_at(far, (), FAR), support.HUGE)
        self.assertEqual(drops_at(far, (), -FAR), 1)
        self.assertEqual(print_of(-FAR, (top,)), ((-FAR, 1), (top + FAR, 1)))
        self.assertEqual(looked_back(FAR, (-top,)), ((-top - FAR, 1), (FAR, 1)))
        self.assertEqual(count_drop_rows(NEAR, FAR), 0)
        self.assertIsNone(first_drop_row(NEAR, -FAR))


if __name__ == "__main__":
    unittest.main()
