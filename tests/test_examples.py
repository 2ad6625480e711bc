"""Every example of the document, word for word."""

import importlib
import unittest

from wetfolds import errors

MODULES = (
    "strips", "folding", "prints", "plainstrips", "strippings", "rowways", "foldtexts", "rownumbers", "forms",
    "formrows", "alikerows", "rowmoves", "standins", "onedrops", "errors", "foldbacks", "likeprints", "stepbacks",
    "washforms", "washings", "washbacks", "washrows", "inkedplaces", "likerows", "lotways", "stretches",
    "usualcounts", "greatestlots", "rings", "ringwashes", "ringalikes", "ringevens", "ends", "endsalike",
    "goodlengths", "rooms", "ranks", "sheets", "sheetrows", "drying", "dryrows", "lives", "logforms", "shares",
    "keepers",
)

EXAMPLES = {
    42: r"""
>>> A, B = ((0, 1), (3, 2)), ((-2, 5), (3, 1))
>>> [is_strip(A), is_strip(A[::-1]), is_strip(((0, 0),)), are_folds((2, -1)), are_folds([2]), total_of(A), laid_together(A, B)]
[True, False, False, True, False, 3, ((-2, 5), (0, 1), (3, 3))]
>>> [moved_strip(A, -3), mirrored_strip(A, 1), first_place(B), first_place(((-2, 1), (2, 1))), first_place(())]
[((-3, 1), (0, 2)), ((-2, 2), (1, 1)), -2, 2, None]
""",
    43: r"""
>>> [folded(A, 2), folded_by(A, (2, 0)), folded(((1, 3),), 2), folded(((1, 3),), 1)]
[((-1, 2), (0, 1), (2, 1), (3, 2)), ((-3, 2), (-2, 1), (-1, 2), (0, 2), (1, 2), (2, 1), (3, 2)), ((1, 6),), ((0, 3), (1, 3))]
>>> [folded_on(((0, 1),), (1, 1)), drops_at(A, (2, 0), 0), drops_at(A, (2, 0), 5)]
[[((0, 1),), ((0, 1), (1, 1)), ((0, 2), (1, 2))], 2, 0]
""",
    44: r"""
>>> [steps_of((0, 2, 6, 1)), first_way(3, (0, 2)), print_of(0, (2, 0)), reaches_of(0, (2, 0)), looked_back(0, (2, 0))]
[(2, 4, 5), 6, ((-2, 1), (0, 2), (2, 1)), ((0, 0), (0, 2), (-2, 2)), ((0, 2), (2, 2))]
>>> [print_of(0, (0, 2, 6)) == print_of(0, (0, 4, 6)), print_of(5, ()), steps_of((4, 4))]
[True, ((5, 1),), (0,)]
""",
    45: r"""
>>> [plain_strip(((5, 2), (8, 1))), way_between(A, ((1, 1), (4, 2))), way_between(A, ((5, 2), (8, 1))), way_between(A, B), plain_strip(())]
[((0, 1), (3, 2)), ('moved', 1), ('mirrored', 8), None, ()]
""",
    46: r"""
>>> [taken_away(((0, 3), (1, 1)), ((0, 2), (1, 1))), taken_away(A, B), common_drops(((0, 3), (2, 1)), ((0, 2), (1, 1)))]
[((0, 1),), None, ((0, 2),)]
>>> [made_thinner(((0, 4), (1, 6)), 2), made_thinner(A, 2), thinnest_by(((0, 4), (1, 6))), thinnest_by(())]
[((0, 2), (1, 3)), None, 2, None]
""",
    47: r"""
>>> [shifted_folds((0, 3), 2), mirrored_folds((0, 3), 1), plain_folds((5, 2, 2)), plain_folds((5, 8, 8)), folds_between((0, 3), (4, 7)), folds_between((0, 3), (2, -1)), folds_between((0, 3), (1, 4))]
[(4, 7), (2, -1), (1, -2, -2), (1, -2, -2), ('moved', 2), ('mirrored', 1), None]
""",
    48: r"""
>>> [strip_text(B), strip_text(()), read_strip("0:1 3:2") == A, folds_text((2, -1, 7)), read_folds("1 -1/2 7/2"), read_folds(".")]
['-2:5 3:1', '.', True, '1 -1/2 7/2', (2, -1, 7), ()]
>>> read_strip("3:1 -1:1")
raises InvalidText(4)
>>> read_folds("3/2 4/2")
raises InvalidText(5)
""",
    49: r"""
>>> [count_folds(2, 1), folds_at(2, 1, 3), folds_number((0, -1), 1), folds_number((0, -2), 1), count_folds(0, 5), folds_at(0, 5, 0)]
[9, (0, -1), 3, None, 1, ()]
""",
    50: r"""
>>> [form_of((0, 2, 6, 1)), form_of((3,)), count_rows((0, 6, (2, 4))), rows_of((0, 6, (2, 4))), count_rows((0, 0, (2, 4, 6))), count_rows((0, 1, (2,)))]
[(0, 1, (2, 4, 5)), (3, 3, ()), 2, [(0, 2, 6), (0, 4, 6)], 12, 0]
""",
    51: r"""
>>> [row_at((0, 6, (2, 4)), 1), index_of((0, 4, 6)), least_row((0, 0, (2, 4, 6))), last_row((0, 0, (2, 4, 6))), least_row((0, 1, (2,)))]
[(0, 4, 6), 1, (0, -6, -4, 0), (0, 6, 4, 0), None]
""",
    52: r"""
>>> [rows_alike((0, 2, 6), (0, 4, 6)), parting_place((0, 2), (0, 4)), parting_place((2, 5), (3, 5)), parting_place((), (0,)), parting_place((0, 2, 6), (0, 4, 6))]
[True, 0, 1, 0, None]
>>> [doublings((0, 0, 2), (0, 2)), doublings((0, 2), (0, 2, 2, 2)), doublings((0,), ()), exchange_places((0, 2, -2, 0)), exchange_places((1, 1))]
[1, -2, None, (1,), (0,)]
""",
    53: r"""
>>> [moved_row((0, 1, 3), ("turn", 0, 2)), moved_row((0, 1, 3, 0), ("mirror", 0, 3)), road_between((0, 1), (0, 2)), is_road((0, 1, 3), (0, 2, 3), (("turn", 0, 2),)), is_road((0, 1), (0, 1), ())]
[(0, 2, 3), (0, -1, -3, 0), None, True, True]
""",
    54: r"""
>>> [with_row((0, 1, 3), 1, 2, (5, 6)), places_for((0, 1, 3), (2,)), places_for((0, 1), (0,)), places_for((4,), ())]
[(0, 5, 6, 3), [(1, 2)], [(0, 1)], [(0, 0), (1, 1)]]
""",
    55: r"""
>>> P = ((-2, 1), (0, 2), (2, 1))
>>> [parts_of(P), parts_of(((0, 1), (3, 2))), drop_places(P), count_drop_rows(P, 0), count_drop_rows(P, -2), first_drop_row(P, 0), first_drop_row(((5, 1),), 5)]
[(2, 2), None, (-2, 0, 2), 2, 1, (-2, 0), ()]
""",
    56: r"""
>>> [stuck_fold(P, (2, 0)), stuck_fold(P, (1, 0)), stuck_fold(P, (1,)), stuck_fold(((0, 1),), (0,)), count_before(P, (2, 0)), strip_before(P, (2, 0)), strip_before(P, (0,)), count_before(P, ())]
[None, 1, 0, 0, 2, ((2, 1),), ((0, 1), (2, 1)), 1]
""",
    57: r"""
>>> [come_to_one(((0, 1),), ((2, 1),), (2, 0)), first_unlike(((0, 1),), ((2, 1),), (0,)), count_like(((0, 1), (3, 2)), (2, 0)), count_like(P, ())]
[True, 0, 6, 1]
""",
    58: r"""
>>> [rest_by(P, (2,)), rest_by(P, (1,)), first_creases(P, (2,)), count_step_rows(P, (2,)), count_step_rows(P, (2, 2)), last_crease(P), last_crease(((0, 1),)), last_steps(P)]
[((-2, 1), (0, 1)), None, (-2, 2), 2, 0, 0, None, (2,)]
""",
    59: r"""
>>> [strip_modulo(((0, 4), (2, 3), (3, 5)), 2), wash_form((0, 2, 4, 7), 2), wash_form((0, 2, 4, 7), 3), wash_form((1, 1), 2), wash_form((0, 0, 0, 0, 4), 3)]
[((2, 1), (3, 1)), (0, 7, 0, (3, 4)), (0, 7, 0, (2, 2, 3)), (), (0, 4, 1, (4,))]
>>> [wash_alike((0, 1, 0), (0, 1, 2, 0), 2), wash_alike((0, 2, 4), (0, 4), 2), wash_parting((0, 1), (0, 3), 2), wash_parting((1,), (), 2), alike_primes((0, 2, 4, 6), (0, 6))]
[False, True, 1, 0, (3,)]
""",
    60: r"""
>>> [washed_by(((0, 1), (3, 2)), (2, 0), 2), washed_by(((1, 1),), (2,), 3), washes_out(((0, 1), (1, 5), (2, 1)), (2, 7), 2), washes_out(((0, 1), (2, 2)), (2, 7), 3)]
[((-2, 1), (2, 1)), ((1, 2),), True, True]
>>> [count_inked(0, (1, 2, 4, 8), 2), count_inked(0, (1, 2, 3), 2), count_inked(0, (1, 2, 3), 3), count_inked(1, (2, 5), 2)]
[2, 4, 2, 0]
""",
    61: r"""
>>> [washed_from(((0, 1), (2, 1)), (2,), 2), washed_from(((1, 2),), (2,), 3), washed_from(((1, 1),), (2,), 2), washed_from(((-2, 1), (2, 1)), (2, 0), 2)]
[((2, 1),), ((1, 1),), None, ((2, 1),)]
""",
    62: r"""
>>> [fewest_wash((0, 2, 4), 2), short_wash((0, 2, 4), 2), fewest_wash((0, 2, 0), 2), fewest_wash((0, 2, 4, 2, 0, 8), 2), fewest_wash((3, 3, 5), 2), fewest_wash((), 5)]
[2, (0, 4), 3, 4, 2, 0]
""",
    63: r"""
>>> [inked_by((0, 3), (2,)), inked_by((1,), (2, 2)), sums_by((0, 2, 6)), sums_by((4, 4, 4)), sums_by(()), inked_by((), (2,))]
[(-1, 0, 2, 3), (1,), (-6, -2, 2, 6), (0,), (), ()]
>>> [alike_by_places((0, 1, 2, 3), (0, 2, 3)), alike_by_places((0, 0), (0,)), place_apart_in_ink((0, 1), (0, 3)), place_apart_in_ink((), (0,)), place_apart_in_ink((0, 1, 2, 3), (0, 2, 3))]
[True, True, 0, 1, None]
""",
    64: r"""
>>> [fewest_folds((0, 1, 2, 3)), least_ink_row((0, 1, 2, 3)), step_lots((0, 1, 2, 3)), fewest_folds((4, 4)), fewest_folds(()), step_lots((0, 5))]
[3, (0, 1, 3), [(1, 1, 1), (1, 2)], 1, 0, [(5,)]]
""",
    65: r"""
>>> [fewest_ways((0, 1, 2, 3, 4)), fewest_ways((0, 2, 3, 5)), fewest_ways((0, 1, 3)), fewest_ways((7,)), inked_by((2,), row_from(2, (0, 2, 3, 5)))]
[(1, 1, 2), (2, 3), None, (), (0, 2, 3, 5)]
""",
    66: r"""
>>> [inked_by((1,), stretch_row(1, 0, 4)), len(stretch_row(1, 0, 4)), stretch_row(3, 3, 3), holes_of((0, 1, 4, 6)), inks_whole((1,), 0), inks_whole((2,), 0)]
[(0, 1, 2, 3, 4), 3, (), [(2, 3), (5, 5)], True, False]
""",
    67: r"""
>>> [usual_count((0,)), unusual_places((0,)), usual_count((0, 2)), unusual_places((0, 2)), usual_count((1, 1)), unusual_places((1, 1))]
[2, [0], 4, [-1, 0, 1], 2, []]
""",
    68: r"""
>>> [greatest_lot((-2, 0, 2, 4), (0, 2)), comes_of_some((-2, 0, 2, 4), (0, 2)), fewest_before((-2, 0, 2, 4), (0, 2)), comes_of_some((0, 1), (0,))]
[(-2, 0, 2), True, (-2,), False]
""",
    69: r"""
>>> [ring_folded(3, (1, 0, 0), (2, 3)), ring_print(4, 1, (2,)), ring_print(4, 1, (0, 1)), ring_print(1, 0, (5, 5))]
[(2, 1, 1), (0, 2, 0, 0), (1, 1, 1, 1), (4,)]
>>> [closed_up(3, ((-1, 2), (5, 1), (7, 4))), cut_open(3, (0, 4, 3)), are_ring_drops(2, (0, -1))]
[(0, 4, 3), ((1, 4), (2, 3)), False]
""",
    71: r"""
>>> [ring_washes(3, (0, 3)), ring_washes(4, (0, 2)), ring_washes(4, (1, 3)), ring_washes(2, (1,)), ring_washes(2, (4,))]
[True, True, False, False, True]
>>> [washing_rings((0, 12)), washing_rings((1,)), washing_rings(()), washing_rings((4, 4)), washing_power((0, 12, 6), 3)]
[[1, 2, 3, 4, 6, 12], [1], [], None, 2]
""",
    70: r"""
>>> [alike_on_ring(2, (0, 1), (1, 0)), spot_apart(3, (0, 1), (1, 0)), parting_ring((0, 2, 6), (0, 4, 6)), parting_ring((0,), (0, 0))]
[True, 0, None, 1]
>>> [rings_alike((0, 1), (1, 0)), rings_alike((0, 12), (12, 0)), parting_ring((0, 12), (12, 0)), rings_alike((), (0,))]
[[1, 2], [1, 2, 3, 4, 6, 8, 12, 24], 5, []]
""",
    72: r"""
>>> [is_spread_evenly(4, 1, (0, 1)), is_spread_evenly(3, 0, (1, 2, 5)), fewest_even(1, 0), fewest_even(12, 3), len(fewest_even(8, 0))]
[True, False, (), None, 3]
>>> [lacking_power(8, 0, (1, 3)), lacking_power(8, 0, (1, 3, 7)), lacking_power(6, 0, (1,))]
[4, None, None]
""",
    73: r"""
>>> [ended_print(0, (0, 2, 6), None), ended_print(1, (0, 2, 6), None), lost_drops(1, (0, 2, 6), None), ended_strip(((0, 1), (1, 5)), (2, 2), 2)]
[((0, 2), (2, 2), (4, 2), (6, 2)), ((1, 2), (5, 2)), 4, ((0, 1), (1, 20))]
""",
    74: r"""
>>> [telling_place((0, 2, 6), (0, 4, 6), None), telling_length((0, 2, 6), (0, 4, 6)), alike_ended((-5, 2), (2, -1), None), alike_at_all((-5, 2), (2, -1))]
[1, (2, 1), True, True]
""",
    75: r"""
>>> [is_good_length((2, 2), 2), bad_lengths((2, 2)), good_from((2, 2)), out_and_back((2, 2), 2), bad_lengths((6,)), good_from(())]
[False, [1, 2], 3, (0, 2, 0), [], 0]
""",
    76: r"""
>>> [room_of((2, 6), None), safe_places((2, 6), None), room_of((2, 6), 6), safe_places((2, 6), 6), safe_places((), 2)]
[2, [0, 1, 2], 0, [1], [0, 1]]
""",
    77: r"""
>>> [ended_table((0, 1), 2), rank_on((0, 1), 2), two_to_one((), 5), rank_on((2, 2), 3)]
[((2, 2), (1, 1)), 1, None, 2]
""",
    78: r"""
>>> C, D = (("x", 2), ("less", 0)), (("x", 0), ("x", 0), ("y", 0))
>>> [sheet_print((0, 1), C), sheet_print((1, 2), D), is_sheet_row((("x", 1), ("sum", 0))), is_sheet_row((("z", 1),))]
[(((0, 1), 1), ((1, 0), 1), ((1, 2), 1), ((2, 1), 1)), (((-1, -2), 2), ((-1, 2), 2), ((1, -2), 2), ((1, 2), 2)), True, False]
""",
    79: r"""
>>> [can_exchange(C, 0, 1), can_exchange(D, 0, 2), same_on_sheets(D, (("y", 0), ("x", 0), ("y", 0))), same_on_sheets(C, C[::-1])]
[False, True, True, False]
>>> [straight_form(D), count_straight(D), straight_form((("x", 1), ("x", 4), ("x", 2))), count_straight((("x", 1), ("x", 4), ("x", 2))), straight_form(())]
[((0, 0, ()), (0, 0, ()), 1), 6, ((1, 2, (2, 3)), None, 0), 2, (None, None, 0)]
""",
    80: r"""
>>> [dry_print(0, (2, 6, 0), time) for time in (0, 1)]
[((0, 1),), ((-4, 1), (0, 1), (2, 1), (4, 1))]
>>> [dry_print(0, (2, 6, 0), 3) == print_of(0, (2, 6, 0)), parting_time((0, 1, 3), (0, 2, 3)), parting_time((0, 1, 3), (2, 3, 1)), parting_time((4,), (4,))]
[True, 1, 2, None]
""",
    81: r"""
>>> [middles_and_shifts((0, 1, 3)), count_dry((0, 1, 3)), row_of_lots((0, 2), (1,)), row_of_lots((), ())]
[((0, 2), (1,)), 2, (0, 1, 3), ()]
>>> row_told(tuple([dry_print(10 ** 8, (5, 0, 7), time) for time in range(4)]))
(5, 0, 7)
""",
    82: r"""
>>> Y = (("drop", 0, 1), ("fold", 2), ("move", 3), ("drop", 5, 2), ("fold", 0))
>>> [is_log(Y), is_log((("drop", 0, 0),)), lived((), Y), lived_on(((1, 1),), Y[:3])]
[True, False, ((-5, 3), (-3, 1), (3, 1), (5, 3)), [((1, 1),), ((0, 1), (1, 1)), ((0, 1), (1, 2), (2, 1)), ((3, 1), (4, 2), (5, 1))]]
""",
    83: r"""
>>> [log_form(Y)[:2], are_like_logs((("fold", 0), ("fold", 2)), (("fold", 0), ("fold", -2), ("move", 2))), are_like_logs((), (("move", 1),))]
[((2, -6), 3), True, False]
>>> [exchanged_deeds(Y), exchanged_deeds((("drop", 1, 1), ("drop", 2, 1), ("move", 0), ("fold", 4)))]
[[], [0, 1, 2]]
""",
    84: r"""
>>> [shares_at(((2, 1),), Y, 5), shares_at((), Y, -3), shares_at(((2, 1),), Y, 0)]
[((-1, 1), (0, 1), (3, 2)), ((0, 1),), ()]
""",
    85: r"""
>>> a = Keeper(((1, 1),))
>>> [a.drop(0, 1), a.fold(2), a.standing, a.total, a.undo(), a.standing, a.redo(), len(a), a.move(3), a.log[2], a == Keeper(())]
[None, None, ((0, 1), (1, 2), (2, 1)), 4, None, ((0, 1), (1, 1)), None, 2, None, ('move', 3), False]
""",
}


def names():
    """All names of the interface that has landed."""
    found = {}
    for module in MODULES:
        found.update(vars(importlib.import_module("wetfolds." + module)))
    return found


def parts(text):
    """The pairs of what is entered and of what is told behind it (None for nothing)."""
    lines = text.strip().split("\n")
    for at, line in enumerate(lines):
        if line.startswith(">>> "):
            told = lines[at + 1] if at + 1 < len(lines) else ">>> "
            yield line[4:], None if told.startswith(">>> ") else told


class Examples(unittest.TestCase):
    def check(self, entered, told, known):
        if told is None:
            exec(entered, known)
        elif told.startswith("raises "):
            name, number = told[len("raises "):].rstrip(")").split("(")
            with self.assertRaises(getattr(errors, name)) as caught:
                eval(entered, known)
            self.assertEqual(getattr(caught.exception, {"InvalidText": "at", "TooMany": "limit"}[name]), int(number))
        else:
            value = eval(entered, known)
            self.assertEqual(repr(value), repr(eval(told, {})))

    def test_each_example(self):
        known = names()
        seen = 0
        for point in sorted(EXAMPLES):
            for entered, told in parts(EXAMPLES[point]):
                with self.subTest(point=point, entered=entered):
                    self.check(entered, told, known)
                    seen += 1
        self.assertEqual(seen, 67)


if __name__ == "__main__":
    unittest.main()
