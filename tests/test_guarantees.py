"""What holds for all strips and rows, over many that are made here, against folding drop by drop."""

import unittest
from itertools import product

from tests.support import drops_of, made, made_folds, made_strip, plain_fold, plain_print, plainly_folded, strip_of
from wetfolds.alikerows import parting_place, rows_alike
from wetfolds.folding import drops_at, folded, folded_by, folded_on
from wetfolds.forms import form_of
from wetfolds.onedrops import count_drop_rows, drop_places, first_drop_row, parts_of
from wetfolds.plainstrips import plain_strip, way_between
from wetfolds.prints import first_way, looked_back, print_of, steps_of
from wetfolds.rowmoves import road_between
from wetfolds.rowways import folds_between, mirrored_folds, plain_folds, shifted_folds
from wetfolds.standins import places_for, with_row
from wetfolds.strippings import common_drops, made_thinner, taken_away, thinnest_by
from wetfolds.strips import laid_together, mirrored_strip, moved_strip, total_of

PLACES = range(-4, 6)
SMALL_ROWS = [row for many in range(4) for row in product(range(-1, 3), repeat=many)]


def plain_prints(row):
    """What tells rows apart: the prints of many single drops, drop by drop."""
    return tuple(plain_print(place, row) for place in PLACES)


class Foldings(unittest.TestCase):
    def test_each_fold_doubles_the_drops(self):
        rng = made(31)
        for _ in range(200):
            strip, folds = made_strip(rng), made_folds(rng, 6)
            totals = [total_of(came) for came in folded_on(strip, folds)]
            self.assertEqual(totals, [len(drops_of(strip)) * 2 ** many for many in range(len(folds) + 1)])

    def test_strips_laid_together(self):
        rng = made(32)
        for _ in range(200):
            strip, other, folds = made_strip(rng, 4, 9), made_strip(rng, 4, 9), made_folds(rng, 3, 9)
            both = folded_by(laid_together(strip, other), folds)
            self.assertEqual(both, laid_together(folded_by(strip, folds), folded_by(other, folds)))
            self.assertEqual(both, strip_of(plain_fold(drops_of(strip) + drops_of(other), folds)))

    def test_prints_are_alike_on_both_sides_of_the_last_crease(self):
        rng = made(33)
        for _ in range(200):
            folds, place = made_folds(rng, 5, 9, 1), rng.randint(-9, 9)
            told = print_of(place, folds)
            self.assertEqual(tuple((folds[-1] - x, drops) for x, drops in told[::-1]), told)

    def test_prints_lie_on_the_halves_added_or_taken_away(self):
        rng = made(34)
        for _ in range(200):
            folds, place = made_folds(rng, 6, 9, 1), rng.randint(-9, 9)
            ways = steps_of(folds) + (first_way(place, folds),)
            doubled = []
            for signs in product((-1, 1), repeat=len(folds)):
                doubled.append(folds[-1] + sum(sign * way for sign, way in zip(signs, ways)))
            self.assertTrue(all(x % 2 == 0 for x in doubled))
            self.assertEqual(print_of(place, folds), strip_of([x // 2 for x in doubled]))

    def test_rows_turned_about(self):
        rng = made(35)
        for _ in range(200):
            folds = made_folds(rng, 5, 6)
            place, other = rng.randint(-9, 9), rng.randint(-9, 9)
            here = plain_fold([place], folds).count(other)
            self.assertEqual(dict(print_of(place, folds)).get(other, 0), here)
            self.assertEqual(dict(print_of(other, folds[::-1])).get(place, 0), here)
            self.assertEqual(dict(looked_back(other, folds)).get(place, 0), here)
            self.assertEqual(drops_at(((place, 1),), folds, other), here)


class MovingAndMirroring(unittest.TestCase):
    def test_plain_strips(self):
        rng = made(36)
        for _ in range(300):
            strip, by = made_strip(rng, 4, 6, 2), rng.randint(-9, 9)
            for other in (moved_strip(strip, by), mirrored_strip(strip, by)):
                self.assertEqual(plain_strip(strip), plain_strip(other))
                self.assertIsNotNone(way_between(strip, other))
            other = made_strip(rng, 3, 3, 2)
            self.assertEqual(plain_strip(strip) == plain_strip(other), way_between(strip, other) is not None)
            self.assertEqual(plain_strip(plain_strip(strip)), plain_strip(strip))

    def test_ways_lead_to_the_other_strip(self):
        rng = made(37)
        for _ in range(300):
            strip, other = made_strip(rng, 2, 3, 2), made_strip(rng, 2, 3, 2)
            way = way_between(strip, other)
            if way is not None:
                move = moved_strip if way[0] == "moved" else mirrored_strip
                self.assertEqual(move(strip, way[1]), other)

    def test_plain_rows(self):
        for row in SMALL_ROWS:
            self.assertEqual(plain_folds(plain_folds(row)), plain_folds(row))
            for other in SMALL_ROWS:
                self.assertEqual(plain_folds(row) == plain_folds(other), folds_between(row, other) is not None)

    def test_ways_lead_to_the_other_row(self):
        for row in SMALL_ROWS:
            for other in SMALL_ROWS:
                way = folds_between(row, other)
                if way is not None:
                    move = shifted_folds if way[0] == "moved" else mirrored_folds
                    self.assertEqual(move(row, way[1]), other)

    def test_folded_likewise(self):
        rng = made(38)
        for _ in range(200):
            strip, folds, by = made_strip(rng, 5, 9), made_folds(rng, 4, 9), rng.randint(-9, 9)
            came = plainly_folded(strip, folds)
            moved = folded_by(moved_strip(strip, by), shifted_folds(folds, by))
            self.assertEqual(moved, tuple((x + by, drops) for x, drops in came))
            mirrored = folded_by(mirrored_strip(strip, by), mirrored_folds(folds, by))
            self.assertEqual(mirrored, tuple(sorted((by - x, drops) for x, drops in came)))


class TakingAwayAndThinning(unittest.TestCase):
    def test_taken_away_ahead_or_behind(self):
        rng = made(39)
        done = 0
        for _ in range(600):
            strip, folds = made_strip(rng, 5, 4, 5), made_folds(rng, 3, 6)
            other = common_drops(strip, made_strip(rng, 3, 4, 3))
            left = taken_away(strip, other)
            behind = taken_away(folded_by(strip, folds), folded_by(other, folds))
            self.assertEqual(folded_by(left, folds), behind)
            self.assertEqual(laid_together(left, other), strip)
            done += other != ()
        self.assertGreater(done, 200)

    def test_made_thinner_ahead_or_behind(self):
        rng = made(40)
        for _ in range(300):
            strip, folds, number = made_strip(rng, 4, 5, 3), made_folds(rng, 3, 6), rng.randint(1, 6)
            thick = tuple((place, drops * number) for place, drops in strip)
            self.assertEqual(made_thinner(thick, number), strip)
            self.assertEqual(made_thinner(folded_by(thick, folds), number), folded_by(strip, folds))
            if strip:
                self.assertEqual(thinnest_by(thick), number * thinnest_by(strip))

    def test_folded_once_as_by_a_row_of_one(self):
        rng = made(41)
        for _ in range(100):
            strip, h = made_strip(rng), rng.randint(-20, 20)
            self.assertEqual(folded(strip, h), folded_by(strip, (h,)))


class AlikeRows(unittest.TestCase):
    def test_alike_just_by_forms_and_by_roads(self):
        prints = {row: plain_prints(row) for row in SMALL_ROWS}
        for row in SMALL_ROWS:
            for other in SMALL_ROWS:
                alike = prints[row] == prints[other]
                self.assertEqual(rows_alike(row, other), alike)
                self.assertEqual(road_between(row, other) is not None, alike)
                if row and other:
                    self.assertEqual(form_of(row) == form_of(other), alike)
                self.assertIn(parting_place(row, other), (None,) if alike else (0, 1))

    def test_alike_rows_fold_strips_alike(self):
        rng = made(42)
        for _ in range(200):
            row = made_folds(rng, 5, 3, 2)
            turned = row[:1] + tuple(row[0] + row[-1] - h for h in row[1:-1][::-1]) + row[-1:]
            strip = made_strip(rng, 4, 9)
            self.assertIs(rows_alike(row, turned), True)
            self.assertEqual(folded_by(strip, row), plainly_folded(strip, turned))

    def test_alike_rows_may_stand_in_for_each_other(self):
        rng = made(43)
        for _ in range(150):
            row = made_folds(rng, 4, 3, 2)
            turned = row[:1] + tuple(row[0] + row[-1] - h for h in row[1:-1][::-1]) + row[-1:]
            ahead, behind = made_folds(rng, 3, 5), made_folds(rng, 3, 5)
            whole = ahead + row + behind
            begin, end = len(ahead), len(ahead) + len(row)
            self.assertIn((begin, end), places_for(whole, turned))
            self.assertEqual(plain_prints(with_row(whole, begin, end, turned)), plain_prints(whole))

    def test_unlike_rows_may_not_stand_in_somewhere(self):
        rows = [row for row in SMALL_ROWS if len(row) < 3]
        for row in rows:
            for other in rows:
                alike = plain_prints(row) == plain_prints(other)
                self.assertEqual((0, len(row)) in places_for(row, other), alike)


class OneDrop(unittest.TestCase):
    def test_places_are_those_of_the_strip_or_none(self):
        rng = made(44)
        for _ in range(200):
            row, place = made_folds(rng, 5, 6), rng.randint(-5, 5)
            strip = plain_print(place, row)
            self.assertEqual(drop_places(strip), tuple(x for x, _ in strip))
            for x in range(strip[0][0] - 1, strip[-1][0] + 2):
                found = first_drop_row(strip, x)
                self.assertEqual(found is not None, x in dict(strip))
                self.assertEqual(count_drop_rows(strip, x) > 0, x in dict(strip))
                if found is not None:
                    self.assertEqual(plain_print(x, found), strip)

    def test_strips_without_parts_come_of_no_drop(self):
        rng = made(45)
        done = 0
        for _ in range(300):
            strip = made_strip(rng, 5, 5, 3) or ((0, 3),)
            if parts_of(strip) is None:
                done += 1
                self.assertEqual(drop_places(strip), ())
                for place in range(-6, 7):
                    self.assertEqual(count_drop_rows(strip, place), 0)
                    self.assertIsNone(first_drop_row(strip, place))
        self.assertGreater(done, 100)


if __name__ == "__main__":
    unittest.main()
