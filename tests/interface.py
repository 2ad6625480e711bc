"""The functions of the interface that have landed, with right and wrong values for each of their arguments."""

from tests import support
from tests.support import FAR, INTEGERS, STRANGE, TUPLES, wrong_integers
from wetfolds.alikerows import doublings, exchange_places, parting_place, rows_alike
from wetfolds.drying import dry_print, parting_time, same_dry
from wetfolds.dryrows import count_dry, middles_and_shifts, row_of_lots, row_told
from wetfolds.ends import ended_print, ended_strip, lost_drops
from wetfolds.endsalike import alike_at_all, alike_ended, telling_length, telling_place
from wetfolds.errors import (
    EmptyLot, InvalidCrease, InvalidFolds, InvalidForm, InvalidIndex, InvalidLength, InvalidLog, InvalidLot,
    InvalidLots, InvalidMove, InvalidNumber, InvalidPlace, InvalidPrime, InvalidPrints, InvalidRing, InvalidSheet,
    InvalidSheetRow, InvalidSpot, InvalidSteps, InvalidStretch, InvalidStrip, InvalidText, InvalidTime, NoFolds,
    NotInked,
)
from wetfolds.foldbacks import count_before, strip_before, stuck_fold
from wetfolds.folding import drops_at, folded, folded_by, folded_on
from wetfolds.foldtexts import folds_text, read_folds, read_strip, strip_text
from wetfolds.formrows import index_of, last_row, least_row, row_at
from wetfolds.forms import count_rows, form_of, is_form, rows_of
from wetfolds.goodlengths import bad_lengths, good_from, is_good_length, out_and_back
from wetfolds.greatestlots import comes_of_some, fewest_before, greatest_lot
from wetfolds.inkedplaces import alike_by_places, inked_by, place_apart_in_ink, sums_by
from wetfolds.likeprints import come_to_one, count_like, first_unlike
from wetfolds.likerows import fewest_folds, least_ink_row, step_lots
from wetfolds.lives import is_log, lived, lived_on
from wetfolds.logforms import are_like_logs, exchanged_deeds, log_form
from wetfolds.lotways import fewest_ways, row_from
from wetfolds.onedrops import count_drop_rows, drop_places, first_drop_row, parts_of
from wetfolds.plainstrips import plain_strip, way_between
from wetfolds.prints import first_way, looked_back, print_of, reaches_of, steps_of
from wetfolds.ranks import ended_table, rank_on, two_to_one
from wetfolds.ringalikes import alike_on_ring, parting_ring, rings_alike, spot_apart
from wetfolds.ringevens import fewest_even, is_spread_evenly, lacking_power
from wetfolds.rings import are_ring_drops, closed_up, cut_open, ring_folded, ring_print
from wetfolds.ringwashes import ring_washes, washing_power, washing_rings
from wetfolds.rooms import room_of, safe_places
from wetfolds.rowmoves import is_road, moved_row, road_between
from wetfolds.rownumbers import count_folds, folds_at, folds_number
from wetfolds.rowways import folds_between, mirrored_folds, plain_folds, shifted_folds
from wetfolds.shares import shares_at
from wetfolds.sheetrows import can_exchange, count_straight, same_on_sheets, sheet_parting, straight_form
from wetfolds.sheets import is_sheet, is_sheet_row, sheet_folded, sheet_print
from wetfolds.standins import places_for, with_row
from wetfolds.stepbacks import count_step_rows, first_creases, last_crease, last_steps, rest_by
from wetfolds.stretches import holes_of, inks_whole, stretch_row
from wetfolds.strippings import common_drops, made_thinner, taken_away, thinnest_by
from wetfolds.strips import are_folds, first_place, is_strip, laid_together, mirrored_strip, moved_strip, total_of
from wetfolds.usualcounts import unusual_places, usual_count
from wetfolds.washbacks import washed_from
from wetfolds.washforms import alike_primes, strip_modulo, wash_alike, wash_form, wash_parting
from wetfolds.washings import count_inked, washed_by, washes_out
from wetfolds.washrows import fewest_wash, short_wash

A = ((0, 1), (3, 2))
B = ((-2, 5), (3, 1))
FOLDS = (0, 1, 3, 0)
FORM = (0, 6, (2, 4))
NEAR = ((-2, 1), (0, 2), (2, 1))
LOT = (-2, 0, 2, 4)
RING = (0, 4, 3)

# An argument is a right value and a tuple of pairs: wrong values, and the error that each of them raises.
STRIP = (A, ((support.WRONG_STRIPS, InvalidStrip),))
OTHER = (B, ((support.WRONG_STRIPS, InvalidStrip),))
ROW = (FOLDS, ((support.WRONG_FOLDS, InvalidFolds),))
BESIDE = ((0, 3, 1, 0), ((support.WRONG_FOLDS, InvalidFolds),))
SOME_ROW = (FOLDS, ((support.WRONG_FOLDS, InvalidFolds), ([()], NoFolds)))
CREASE = (1, ((wrong_integers(-10 ** 6, 10 ** 6), InvalidCrease),))
PLACE = (2, ((wrong_integers(-FAR, FAR), InvalidPlace),))
BY = (3, ((wrong_integers(-FAR, FAR), InvalidNumber),))
THINNER = (1, ((wrong_integers(1, FAR), InvalidNumber),))
MANY = (2, ((wrong_integers(0, 12), InvalidNumber),))
MOST = (1, ((wrong_integers(0, 10 ** 6), InvalidNumber),))
NUMBER = (3, ((wrong_integers(0, 8), InvalidNumber),))
A_FORM = (FORM, ((support.WRONG_FORMS, InvalidForm),))
INDEX = (1, ((wrong_integers(0, 1), InvalidIndex),))
MOVE = (("turn", 0, 2), ((support.WRONG_MOVES, InvalidMove),))
BEGIN = (1, ((wrong_integers(0, 4) + [3, 4], InvalidStretch),))
END = (2, ((wrong_integers(0, 4) + [0], InvalidStretch),))
STANDS_IN = ((5,), ((support.WRONG_FOLDS, InvalidFolds),))
A_NEAR = (NEAR, ((support.WRONG_NEARS, InvalidStrip),))
STEPS = ((2,), ((support.WRONG_STEPS, InvalidSteps),))
PRIME = (3, ((support.WRONG_PRIMES, InvalidPrime),))
A_LOT = (LOT, ((support.WRONG_LOTS, InvalidLot),))
SOME_LOT = (LOT, ((support.WRONG_LOTS, InvalidLot), ([()], EmptyLot)))
IN_LOT = (2, ((wrong_integers(-FAR, FAR), InvalidPlace),))
LOT_OF_PLACE = (LOT, ((support.WRONG_LOTS, InvalidLot), ([()], EmptyLot), ([(0, 1), (1, 3), (-2,)], NotInked)))
FAR_LOT = 10 ** 5
FROM = (1, ((wrong_integers(-FAR_LOT, FAR_LOT) + [-1, 5, FAR_LOT, -FAR_LOT], InvalidStretch),))
FIRST = (0, ((wrong_integers(-FAR_LOT, FAR_LOT) + [2, 3, FAR_LOT, -252], InvalidStretch),))
LAST = (4, ((wrong_integers(-FAR_LOT, FAR_LOT) + [0, -1, -FAR_LOT, 256], InvalidStretch),))
SIZE = (3, ((wrong_integers(1, 64), InvalidNumber),))
GREAT_SIZE = (3, ((wrong_integers(1, 10 ** 6), InvalidNumber),))
DROPS = (RING, ((support.WRONG_RINGS, InvalidRing),))
SPOT = (2, ((wrong_integers(0, 2), InvalidPlace),))
ODD = (3, ((wrong_integers(3, 10 ** 6) + [1, 0, -3, 4, 10 ** 6, 999998, 10 ** 6 + 3], InvalidNumber),))
END_ROW = (6, 8, 6)
ENDED_ROW = (END_ROW, ((support.WRONG_ENDED_FOLDS, InvalidFolds),))
ENDED_BESIDE = ((6, 2, 6), ((support.WRONG_ENDED_FOLDS, InvalidFolds),))
LENGTH = (10, ((wrong_integers(0, 64), InvalidLength),))
ANY_LENGTH = (10, (([value for value in wrong_integers(0, 64) if value is not None], InvalidLength),))
TABLE_LENGTH = (10, ((wrong_integers(0, 24) + [25, 64], InvalidLength),))
SHEET_ROW = (("x", 2), ("y", 0), ("x", 2))
SHEET = (((0, 1), 1), ((2, -1), 5))
A_SHEET = (SHEET, ((support.WRONG_SHEETS, InvalidSheet),))
A_SHEET_ROW = (SHEET_ROW, ((support.WRONG_SHEET_ROWS, InvalidSheetRow),))
SHEET_ROW_BESIDE = ((("less", 1),), ((support.WRONG_SHEET_ROWS, InvalidSheetRow),))
ASLANT = [(("less", 0),), (("sum", 0),), (("x", 0), ("less", 0)), (("sum", 1), ("y", 0))]
STRAIGHT = (SHEET_ROW, ((support.WRONG_SHEET_ROWS + ASLANT, InvalidSheetRow),))
A_SPOT = ((1, 2), ((support.WRONG_SPOTS, InvalidSpot),))
ONE_OF_THREE = (1, ((wrong_integers(0, 2), InvalidNumber),))
TIME = (2, ((wrong_integers(0, 100), InvalidTime),))
MIDDLES = ((0, 2), ((support.WRONG_LOT_NUMBERS + [(), (0, 1, 2, 3), (0, 1, 2)], InvalidLots),))
SHIFTS = ((1,), ((support.WRONG_LOT_NUMBERS + [(0, 1, 2), (1, 2, 3, 4), ()], InvalidLots),))
PRINTS = ((((10 ** 8, 1),),), ((support.WRONG_PRINTS, InvalidPrints),))
LOG = (("drop", 0, 1), ("drop", 3, 2), ("fold", 2), ("move", 3))
A_LOG = (LOG, ((support.WRONG_LOGS, InvalidLog),))
LOG_BESIDE = ((("fold", 2),), ((support.WRONG_LOGS, InvalidLog),))
NO_STRINGS = STRANGE + TUPLES + INTEGERS + [["0:1"], ("0:1",)]
STRIP_SAID = ("0:1 3:2", ((NO_STRINGS, InvalidText),))
ROW_SAID = ("1 -1/2 7/2", ((NO_STRINGS, InvalidText),))

# Each function of the interface with its file, its parameters as the document writes them, and its arguments.
FUNCTIONS = [
    (total_of, "strips", "strip", [STRIP]),
    (laid_together, "strips", "strip other", [STRIP, OTHER]),
    (moved_strip, "strips", "strip by", [STRIP, BY]),
    (mirrored_strip, "strips", "strip crease", [STRIP, CREASE]),
    (first_place, "strips", "strip", [STRIP]),
    (folded, "folding", "strip crease", [STRIP, CREASE]),
    (folded_by, "folding", "strip folds", [STRIP, ROW]),
    (folded_on, "folding", "strip folds", [STRIP, ROW]),
    (drops_at, "folding", "strip folds place", [STRIP, ROW, PLACE]),
    (steps_of, "prints", "folds", [ROW]),
    (first_way, "prints", "place folds", [PLACE, ROW]),
    (print_of, "prints", "place folds", [PLACE, ROW]),
    (reaches_of, "prints", "place folds", [PLACE, ROW]),
    (looked_back, "prints", "place folds", [PLACE, ROW]),
    (plain_strip, "plainstrips", "strip", [STRIP]),
    (way_between, "plainstrips", "strip other", [STRIP, OTHER]),
    (taken_away, "strippings", "strip other", [STRIP, OTHER]),
    (common_drops, "strippings", "strip other", [STRIP, OTHER]),
    (made_thinner, "strippings", "strip number", [STRIP, THINNER]),
    (thinnest_by, "strippings", "strip", [STRIP]),
    (shifted_folds, "rowways", "folds by", [ROW, BY]),
    (mirrored_folds, "rowways", "folds crease", [ROW, CREASE]),
    (plain_folds, "rowways", "folds", [ROW]),
    (folds_between, "rowways", "folds other", [ROW, BESIDE]),
    (strip_text, "foldtexts", "strip", [STRIP]),
    (folds_text, "foldtexts", "folds", [ROW]),
    (read_strip, "foldtexts", "text", [STRIP_SAID]),
    (read_folds, "foldtexts", "text", [ROW_SAID]),
    (count_folds, "rownumbers", "many most", [MANY, MOST]),
    (folds_at, "rownumbers", "many most number", [MANY, MOST, NUMBER]),
    (folds_number, "rownumbers", "folds most", [ROW, MOST]),
    (form_of, "forms", "folds", [SOME_ROW]),
    (count_rows, "forms", "form", [A_FORM]),
    (rows_of, "forms", "form", [A_FORM]),
    (row_at, "formrows", "form index", [A_FORM, INDEX]),
    (index_of, "formrows", "folds", [SOME_ROW]),
    (least_row, "formrows", "form", [A_FORM]),
    (last_row, "formrows", "form", [A_FORM]),
    (rows_alike, "alikerows", "folds beside", [ROW, BESIDE]),
    (parting_place, "alikerows", "folds beside", [ROW, BESIDE]),
    (doublings, "alikerows", "folds beside", [ROW, BESIDE]),
    (exchange_places, "alikerows", "folds", [ROW]),
    (moved_row, "rowmoves", "folds move", [ROW, MOVE]),
    (road_between, "rowmoves", "folds beside", [ROW, BESIDE]),
    (is_road, "rowmoves", "folds beside value", [ROW, BESIDE, ((("turn", 0, 3),), ())]),
    (with_row, "standins", "folds begin end beside", [ROW, BEGIN, END, STANDS_IN]),
    (places_for, "standins", "folds beside", [ROW, STANDS_IN]),
    (parts_of, "onedrops", "near", [A_NEAR]),
    (drop_places, "onedrops", "near", [A_NEAR]),
    (count_drop_rows, "onedrops", "near place", [A_NEAR, PLACE]),
    (first_drop_row, "onedrops", "near place", [A_NEAR, PLACE]),
    (stuck_fold, "foldbacks", "strip folds", [STRIP, ROW]),
    (count_before, "foldbacks", "strip folds", [STRIP, ROW]),
    (strip_before, "foldbacks", "strip folds", [STRIP, ROW]),
    (come_to_one, "likeprints", "strip other folds", [STRIP, OTHER, ROW]),
    (first_unlike, "likeprints", "strip other folds", [STRIP, OTHER, ROW]),
    (count_like, "likeprints", "strip folds", [STRIP, ROW]),
    (rest_by, "stepbacks", "near steps", [A_NEAR, STEPS]),
    (first_creases, "stepbacks", "near steps", [A_NEAR, STEPS]),
    (count_step_rows, "stepbacks", "near steps", [A_NEAR, STEPS]),
    (last_crease, "stepbacks", "near", [A_NEAR]),
    (last_steps, "stepbacks", "near", [A_NEAR]),
    (strip_modulo, "washforms", "strip prime", [STRIP, PRIME]),
    (wash_form, "washforms", "folds prime", [SOME_ROW, PRIME]),
    (wash_alike, "washforms", "folds beside prime", [ROW, BESIDE, PRIME]),
    (wash_parting, "washforms", "folds beside prime", [ROW, BESIDE, PRIME]),
    (alike_primes, "washforms", "folds beside", [ROW, BESIDE]),
    (washed_by, "washings", "strip folds prime", [STRIP, ROW, PRIME]),
    (washes_out, "washings", "strip folds prime", [STRIP, ROW, PRIME]),
    (count_inked, "washings", "place folds prime", [PLACE, ROW, PRIME]),
    (washed_from, "washbacks", "strip folds prime", [STRIP, SOME_ROW, PRIME]),
    (fewest_wash, "washrows", "folds prime", [ROW, PRIME]),
    (short_wash, "washrows", "folds prime", [ROW, PRIME]),
    (inked_by, "inkedplaces", "lot folds", [A_LOT, ROW]),
    (sums_by, "inkedplaces", "folds", [ROW]),
    (alike_by_places, "inkedplaces", "folds other_folds", [ROW, BESIDE]),
    (place_apart_in_ink, "inkedplaces", "folds other_folds", [ROW, BESIDE]),
    (fewest_folds, "likerows", "folds", [ROW]),
    (least_ink_row, "likerows", "folds", [ROW]),
    (step_lots, "likerows", "folds", [ROW]),
    (fewest_ways, "lotways", "lot", [SOME_LOT]),
    (row_from, "lotways", "place lot", [IN_LOT, LOT_OF_PLACE]),
    (stretch_row, "stretches", "place first last", [FROM, FIRST, LAST]),
    (holes_of, "stretches", "lot", [A_LOT]),
    (inks_whole, "stretches", "folds place", [ROW, PLACE]),
    (usual_count, "usualcounts", "folds", [SOME_ROW]),
    (unusual_places, "usualcounts", "folds", [SOME_ROW]),
    (greatest_lot, "greatestlots", "lot folds", [A_LOT, ROW]),
    (comes_of_some, "greatestlots", "lot folds", [A_LOT, ROW]),
    (fewest_before, "greatestlots", "lot folds", [A_LOT, ROW]),
    (are_ring_drops, "rings", "size value", [SIZE, (RING, ())]),
    (ring_folded, "rings", "size drops folds", [SIZE, DROPS, ROW]),
    (ring_print, "rings", "size spot folds", [SIZE, SPOT, ROW]),
    (cut_open, "rings", "size drops", [SIZE, DROPS]),
    (closed_up, "rings", "size strip", [SIZE, STRIP]),
    (ring_washes, "ringwashes", "size folds", [GREAT_SIZE, ROW]),
    (washing_rings, "ringwashes", "folds", [ROW]),
    (washing_power, "ringwashes", "folds odd", [ROW, ODD]),
    (alike_on_ring, "ringalikes", "size folds other", [SIZE, ROW, BESIDE]),
    (spot_apart, "ringalikes", "size folds other", [SIZE, ROW, BESIDE]),
    (parting_ring, "ringalikes", "folds other", [ROW, BESIDE]),
    (rings_alike, "ringalikes", "folds other", [ROW, BESIDE]),
    (is_spread_evenly, "ringevens", "size spot folds", [GREAT_SIZE, SPOT, ROW]),
    (fewest_even, "ringevens", "size spot", [GREAT_SIZE, SPOT]),
    (lacking_power, "ringevens", "size spot folds", [GREAT_SIZE, SPOT, ROW]),
    (ended_print, "ends", "place folds length", [PLACE, ENDED_ROW, ANY_LENGTH]),
    (lost_drops, "ends", "place folds length", [PLACE, ENDED_ROW, ANY_LENGTH]),
    (ended_strip, "ends", "strip folds length", [STRIP, ENDED_ROW, ANY_LENGTH]),
    (alike_ended, "endsalike", "folds others length", [ENDED_ROW, ENDED_BESIDE, ANY_LENGTH]),
    (telling_place, "endsalike", "folds others length", [ENDED_ROW, ENDED_BESIDE, ANY_LENGTH]),
    (alike_at_all, "endsalike", "folds others", [ENDED_ROW, ENDED_BESIDE]),
    (telling_length, "endsalike", "folds others", [ENDED_ROW, ENDED_BESIDE]),
    (is_good_length, "goodlengths", "folds length", [ENDED_ROW, LENGTH]),
    (bad_lengths, "goodlengths", "folds", [ENDED_ROW]),
    (good_from, "goodlengths", "folds", [ENDED_ROW]),
    (out_and_back, "goodlengths", "folds length", [ENDED_ROW, LENGTH]),
    (room_of, "rooms", "folds length", [ENDED_ROW, ANY_LENGTH]),
    (safe_places, "rooms", "folds length", [ENDED_ROW, ANY_LENGTH]),
    (ended_table, "ranks", "folds length", [ENDED_ROW, TABLE_LENGTH]),
    (rank_on, "ranks", "folds length", [ENDED_ROW, TABLE_LENGTH]),
    (two_to_one, "ranks", "folds length", [ENDED_ROW, TABLE_LENGTH]),
    (sheet_folded, "sheets", "sheet sheet_row", [A_SHEET, A_SHEET_ROW]),
    (sheet_print, "sheets", "spot sheet_row", [A_SPOT, A_SHEET_ROW]),
    (can_exchange, "sheetrows", "sheet_row one two", [A_SHEET_ROW, ONE_OF_THREE, ONE_OF_THREE]),
    (same_on_sheets, "sheetrows", "sheet_row beside", [A_SHEET_ROW, SHEET_ROW_BESIDE]),
    (sheet_parting, "sheetrows", "sheet_row beside", [A_SHEET_ROW, SHEET_ROW_BESIDE]),
    (straight_form, "sheetrows", "sheet_row", [STRAIGHT]),
    (count_straight, "sheetrows", "sheet_row", [STRAIGHT]),
    (dry_print, "drying", "place folds time", [PLACE, ROW, TIME]),
    (same_dry, "drying", "folds others time", [ROW, BESIDE, TIME]),
    (parting_time, "drying", "folds others", [ROW, BESIDE]),
    (middles_and_shifts, "dryrows", "folds", [ROW]),
    (count_dry, "dryrows", "folds", [ROW]),
    (row_of_lots, "dryrows", "middles shifts", [MIDDLES, SHIFTS]),
    (row_told, "dryrows", "prints", [PRINTS]),
    (lived, "lives", "strip log", [STRIP, A_LOG]),
    (lived_on, "lives", "strip log", [STRIP, A_LOG]),
    (log_form, "logforms", "log", [A_LOG]),
    (are_like_logs, "logforms", "log other_log", [A_LOG, LOG_BESIDE]),
    (exchanged_deeds, "logforms", "log", [A_LOG]),
    (shares_at, "shares", "strip log place", [STRIP, A_LOG, PLACE]),
    (is_sheet, "sheets", "value", [(SHEET, ())]),
    (is_sheet_row, "sheets", "value", [(SHEET_ROW, ())]),
    (is_log, "lives", "value", [(LOG, ())]),
    (is_strip, "strips", "value", [(A, ())]),
    (are_folds, "strips", "value", [(FOLDS, ())]),
    (is_form, "forms", "value", [(FORM, ())]),
]

# The functions that return lists.
LISTS = (
    folded_on, rows_of, places_for, step_lots, holes_of, unusual_places, washing_rings, rings_alike, bad_lengths,
    safe_places, lived_on, exchanged_deeds,
)
