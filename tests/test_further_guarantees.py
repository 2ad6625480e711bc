"""What holds for all strips, rows, lots, rings, papers, sheets and logs, over many that are made here."""

import unittest
from itertools import combinations_with_replacement, product

from tests.support import (
    PRIMES, drops_of, made, made_folds, made_log, made_sheet_row, made_strip, plain_dry, plain_ended, plain_ended_print,
    plain_ink, plain_life, plain_print, plain_ring_print, plain_sheet_print, plain_wash, plainly_folded, plainly_modulo,
    strip_of,
)
from wetfolds.alikerows import rows_alike
from wetfolds.drying import parting_time, same_dry
from wetfolds.dryrows import middles_and_shifts
from wetfolds.ends import lost_drops
from wetfolds.endsalike import alike_at_all, alike_ended
from wetfolds.foldbacks import count_before, stuck_fold
from wetfolds.goodlengths import is_good_length, out_and_back
from wetfolds.greatestlots import comes_of_some, greatest_lot
from wetfolds.inkedplaces import alike_by_places, sums_by
from wetfolds.likeprints import come_to_one
from wetfolds.logforms import are_like_logs, log_form
from wetfolds.lotways import fewest_ways, row_from
from wetfolds.prints import first_way, steps_of
from wetfolds.ringalikes import parting_ring, rings_alike
from wetfolds.ringevens import fewest_even, is_spread_evenly
from wetfolds.rooms import room_of
from wetfolds.sheetrows import can_exchange, same_on_sheets, straight_form
from wetfolds.strips import is_strip
from wetfolds.washforms import wash_alike, wash_form, wash_parting
from wetfolds.washings import washes_out

PLACES = (0, 1, -1, 2, 40)
ROWS = [row for many in range(4) for row in product(range(-1, 3), repeat=many)]
FEW_ROWS = [row for many in range(3) for row in product(range(-1, 3), repeat=many)]
LOTS = [tuple(place for place, there in zip(range(-2, 4), told) if there) for told in product((0, 1), repeat=6)]


class Strips(unittest.TestCase):
    def test_a_strip_came_by_a_row_just_if_each_fold_can_be_undone(self):
        rng = made(301)
        came = 0
        for _ in range(300):
            row, other = made_folds(rng, 3, 2, 1), made_folds(rng, 3, 2)
            strip = plainly_folded(made_strip(rng, 2, 2, 1), rng.choice((row, other)))
            places = [place for place, _ in strip]
            if len(drops_of(strip)) > 2 * 2 ** len(row):
                continue
            before = [other for other in self.strips_on(places, len(drops_of(strip)), len(row))
                      if plainly_folded(other, row) == strip]
            self.assertEqual(stuck_fold(strip, row) is None, len(before) > 0, (strip, row))
            self.assertEqual(count_before(strip, row), len(before))
            came += len(before) > 0
        self.assertGreater(came, 20)

    def strips_on(self, places, total, folds):
        """All strips on some places that have as many drops as a row of so many folds makes so many in all."""
        if total % 2 ** folds:
            return []
        return sorted({strip_of(drops) for drops in combinations_with_replacement(places, total // 2 ** folds)})

    def test_two_strips_are_brought_to_one_just_by_the_first_fold(self):
        strips = [strip_of(drops) for many in range(3) for drops in combinations_with_replacement(range(-1, 3), many)]
        for row in ROWS[1:]:
            first = {strip: plainly_folded(strip, row[:1]) for strip in strips}
            whole = {strip: plainly_folded(strip, row) for strip in strips}
            for strip in strips:
                for other in strips:
                    self.assertEqual(whole[strip] == whole[other], first[strip] == first[other])
        for strip, other in product(strips[::2], strips[1::2]):
            for row in ROWS[::9]:
                self.assertEqual(come_to_one(strip, other, row), plainly_folded(strip, row) == plainly_folded(other, row))


class Washings(unittest.TestCase):
    def test_alike_modulo_a_prime_just_by_wash_forms(self):
        for prime in PRIMES:
            prints = {row: [plain_wash(place, row, prime) for place in PLACES] for row in ROWS}
            for row in ROWS:
                for other in ROWS[::3]:
                    alike = prints[row] == prints[other]
                    self.assertEqual(wash_alike(row, other, prime), alike)
                    if row and other:
                        self.assertEqual(wash_form(row, prime) == wash_form(other, prime), alike)
                    self.assertEqual(alike, prints[row][:2] == prints[other][:2])
                    self.assertIn(wash_parting(row, other, prime), (None,) if alike else (0, 1))

    def test_washed_out_just_if_mirror_places_are(self):
        rng = made(302)
        washed = 0
        for _ in range(400):
            row, prime = made_folds(rng, 4, 3, 1), rng.choice(PRIMES)
            half = made_strip(rng, 3, 3, prime)
            drops = drops_of(half) + rng.choice(([], [row[0] - x for x in drops_of(half)])) * (prime - 1)
            strip = strip_of(drops)
            out = plainly_modulo(plainly_folded(strip, row), prime) == ()
            self.assertIs(washes_out(strip, row, prime), out)
            if wash_form(row, prime) != ():
                pairs = [drops.count(x) + drops.count(row[0] - x) for x in set(drops)]
                self.assertEqual(out, all(together % prime == 0 for together in pairs))
                washed += out and strip != ()
        self.assertGreater(washed, 50)


class Lots(unittest.TestCase):
    def test_alike_by_places_just_by_creases_and_sums(self):
        lots = {row: [plain_ink([place], row) for place in PLACES] for row in ROWS}
        for row in ROWS:
            for other in ROWS:
                alike = lots[row] == lots[other]
                self.assertEqual(alike_by_places(row, other), alike)
                if row and other:
                    ends = (row[0], row[-1], sums_by(row)) == (other[0], other[-1], sums_by(other))
                    self.assertEqual(ends, alike)

    def test_lots_of_prints_just_by_ways(self):
        rng = made(303)
        for _ in range(60):
            row, place = made_folds(rng, 5, 6), rng.randint(-3, 3)
            lot = plain_ink([place], row)
            ways = fewest_ways(lot)
            self.assertLessEqual(len(ways), 12)
            # From each of its places, by rows of as many folds.
            self.assertEqual({len(row_from(here, lot)) for here in lot}, {len(ways)})
            for here in lot:
                self.assertEqual(plain_ink([here], row_from(here, lot)), lot)
        made_lots = {plain_ink([place], row) for place in range(-2, 4)
                     for many in range(4) for row in product(range(-5, 8), repeat=many)}
        for lot in LOTS[1:]:
            self.assertEqual(fewest_ways(lot) is not None, lot in made_lots, lot)
            self.assertEqual(row_from(lot[0], lot) is not None, lot in made_lots)

    def test_lots_come_of_their_greatest_ones(self):
        for row in FEW_ROWS:
            inked = {lot: plain_ink(lot, row) for lot in LOTS}
            found = set(inked.values())
            for lot in LOTS:
                greatest = greatest_lot(lot, row)
                self.assertEqual(comes_of_some(lot, row), plain_ink(greatest, row) == lot)
                if lot in found:
                    self.assertIs(comes_of_some(lot, row), True)
            for lot, other in combinations_with_replacement(LOTS[::3], 2):
                same = greatest_lot(inked[lot], row) == greatest_lot(inked[other], row)
                self.assertEqual(inked[lot] == inked[other], same)


class Rings(unittest.TestCase):
    def test_alike_on_all_rings_just_if_on_all_strips(self):
        prints = {row: [plain_ring_print(size, spot, row) for size in range(1, 12) for spot in range(size)]
                  for row in ROWS}
        for row in ROWS:
            for other in ROWS[::2]:
                alike = prints[row] == prints[other]
                self.assertEqual(rows_alike(row, other), alike)
                self.assertEqual(parting_ring(row, other) is None, alike)
                # Rows that are not alike are so on finitely many rings: with these creases, on small ones.
                self.assertTrue(alike or max([0] + rings_alike(row, other)) < 16)

    def test_spread_evenly_just_on_rings_of_powers_of_two(self):
        for size in range(1, 70):
            for spot in {0, size // 2, size - 1}:
                row = fewest_even(size, spot)
                self.assertEqual(row is not None, size in (1, 2, 4, 8, 16, 32, 64))
                if row is not None:
                    self.assertEqual(len(set(plain_ring_print(size, spot, row))), 1)
                    self.assertIs(is_spread_evenly(size, spot, row), True)
        for e in range(20):
            self.assertEqual(fewest_even(2 ** e, 0) is not None, e <= 12)


class Papers(unittest.TestCase):
    def test_good_lengths_just_without_walks_out_and_back(self):
        for row in ROWS:
            for length in range(6):
                same = True
                for place in range(length):
                    without = [x for x in plain_ended([place], row, None) if x < length]
                    same = same and sorted(without) == sorted(plain_ended([place], row, length))
                self.assertEqual(is_good_length(row, length), same)
                self.assertEqual(out_and_back(row, length) is None, same)
                self.assertTrue(same or length <= max(row))

    def test_alike_at_all_lengths_just_up_to_one_more_than_the_greatest_crease(self):
        lengths = range(8)
        prints = {row: [[plain_ended_print(place, row, length) for place in range(length)] for length in lengths]
                  for row in ROWS}
        for row in ROWS:
            for other in ROWS[::2]:
                most = max((0,) + row + other) + 1
                short = prints[row][:most + 1] == prints[other][:most + 1]
                self.assertEqual(alike_at_all(row, other), short)
                self.assertEqual(alike_at_all(row, other), prints[row] == prints[other])
                self.assertTrue(not short or alike_ended(row, other, None))

    def test_a_drop_loses_nothing_just_in_the_room(self):
        for row in ROWS[1:]:
            for length in (1, 2, 3, 5, None):
                for place in range(length or 5):
                    whole = len(plain_ended([place], row, length)) == 2 ** len(row)
                    self.assertEqual(first_way(place, row) <= room_of(row, length), whole)
                    self.assertEqual(lost_drops(place, row, length) == 0, whole)


class Sheets(unittest.TestCase):
    CREASES = [(way, h) for way in ("x", "y", "less", "sum") for h in (0, 1)]
    SPOTS = [(10 ** 9, 3 * 10 ** 8), (0, 0), (1, 0), (3, 1), (-2, 5)]

    def test_exchanged_just_if_one_or_at_right_angles(self):
        right = ({"x", "y"}, {"less", "sum"})
        for one, two in product(self.CREASES, repeat=2):
            same = all(plain_sheet_print(spot, (one, two)) == plain_sheet_print(spot, (two, one)) for spot in self.SPOTS)
            self.assertEqual(same, one == two or {one[0], two[0]} in right)
            self.assertIs(can_exchange((one, two), 0, 1), same)

    def test_the_same_to_all_sheets_just_if_the_far_spot_is_printed_the_same(self):
        rows = [row for many in range(3) for row in product(self.CREASES, repeat=many)]
        prints = {row: [plain_sheet_print(spot, row) for spot in self.SPOTS] for row in rows}
        for row, other in combinations_with_replacement(rows, 2):
            same = prints[row] == prints[other]
            self.assertEqual(prints[row][0] == prints[other][0], same)
            self.assertIs(same_on_sheets(row, other), same)

    def test_straight_rows_just_by_their_forms(self):
        rng = made(304)
        for _ in range(300):
            row, other = made_sheet_row(rng, 4, 1, "xy"), made_sheet_row(rng, 4, 1, "xy")
            same = all(plain_sheet_print(spot, row) == plain_sheet_print(spot, other) for spot in self.SPOTS)
            self.assertEqual(straight_form(row) == straight_form(other), same)
            self.assertIs(same_on_sheets(row, other), same)


class Drying(unittest.TestCase):
    def test_the_time_1_and_all_times(self):
        prints = {row: [[plain_dry(place, row, time) for place in PLACES] for time in range(5)] for row in ROWS}
        for row in ROWS:
            for other in ROWS[::2]:
                lots = middles_and_shifts(row) == middles_and_shifts(other)
                self.assertEqual(prints[row][1] == prints[other][1], lots)
                self.assertEqual(same_dry(row, other, 1), lots)
                self.assertEqual(prints[row] == prints[other], row == other)
                self.assertEqual(parting_time(row, other) is None, row == other)


class Logs(unittest.TestCase):
    def test_the_same_to_all_strips_just_if_alike(self):
        rng = made(305)
        alike = 0
        for _ in range(400):
            log = made_log(rng, 5, 1, 1)
            other = log[:-2] + log[-1:] + log[-2:-1] if rng.random() < 0.5 else made_log(rng, 4, 1, 1)
            lives = [[strip_of(plain_life(start, some)) for start in ([], [0], [1], [0, 3, 3], [500])]
                     for some in (log, other)]
            same = lives[0] == lives[1]
            alike += same and log != other
            self.assertIs(are_like_logs(log, other), same, (log, other))
        self.assertGreater(alike, 20)

    def test_forms_that_differ_in_what_tells(self):
        rng = made(306)
        for _ in range(200):
            log = made_log(rng, 6, 3, 2)
            folds, shift, rest = log_form(log)
            self.assertEqual(rest, strip_of(plain_life([], log)))
            self.assertIs(is_strip(rest), True)
            # A log of the same folds, then moved, does to a drop what its form tells.
            told = [x + shift for x in drops_of(plain_print(7, folds))]
            self.assertEqual(strip_of(told + drops_of(rest)), strip_of(plain_life([7], log)))
            self.assertEqual(len(steps_of(folds)), max(0, len(folds) - 1))


if __name__ == "__main__":
    unittest.main()
