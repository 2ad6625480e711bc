"""wetfolds.drying: ink that dries, against drops that each tell how many folds they print yet."""

import unittest
from itertools import product

from tests.support import FAR, made, made_folds, plain_dry, plain_print
from wetfolds.alikerows import rows_alike
from wetfolds.drying import dry_print, parting_time, same_dry
from wetfolds.dryrows import middles_and_shifts
from wetfolds.prints import print_of

TOP = 10 ** 6
SMALL = [row for many in range(4) for row in product(range(-1, 3), repeat=many)]
# At places so far out the drops that moved and those that were mirrored do not mix.
PLACES = (0, 1, -1, 2, 5000)


def plain_prints(row, time):
    return tuple(plain_dry(place, row, time) for place in PLACES)


class DryPrints(unittest.TestCase):
    def test_drop_by_drop(self):
        rng = made(191)
        for _ in range(300):
            place, row, time = rng.randint(-9, 9), made_folds(rng, 7), rng.choice((0, 1, 1, 2, 3, 4, 5, 8, 100))
            self.assertEqual(dry_print(place, row, time), plain_dry(place, row, time), (place, row, time))

    def test_all_small_rows(self):
        for row in SMALL:
            for time in range(5):
                self.assertEqual(dry_print(1, row, time), plain_dry(1, row, time))

    def test_twelve_folds(self):
        rng = made(192)
        for time in list(range(13)) + [100]:
            row = tuple(rng.randint(-TOP, TOP) for _ in range(12))
            self.assertEqual(dry_print(-FAR, row, time), plain_dry(-FAR, row, time))
            self.assertEqual(dry_print(3, (6,) * 12, time), plain_dry(3, (6,) * 12, time))

    def test_times_of_nothing_and_of_more_than_the_folds(self):
        rng = made(193)
        for _ in range(100):
            row, place = made_folds(rng, 6), rng.randint(-20, 20)
            self.assertEqual(dry_print(place, row, 0), ((place, 1),))
            for time in (len(row), len(row) + 1, 99, 100):
                self.assertEqual(dry_print(place, row, time), print_of(place, row))
                self.assertEqual(dry_print(place, row, time), plain_print(place, row))

    def test_no_folds(self):
        for time in (0, 1, 100):
            self.assertEqual(dry_print(FAR, (), time), ((FAR, 1),))

    def test_counts_of_drops(self):
        row = (1, 5, 2, 8, 3, 9)
        totals = [sum(drops for _, drops in dry_print(0, row, time)) for time in (0, 1, 2, 5, 6)]
        # At each fold the one drop that came last prints, or the two last ones, or all.
        self.assertEqual(totals[:2] + totals[3:], [1, 7, 64 - 1, 64])
        self.assertEqual(totals[2], 1 + 1 + 2 + 3 + 5 + 8 + 13)


class SameDry(unittest.TestCase):
    def test_all_small_rows(self):
        for time in range(4):
            prints = {row: plain_prints(row, time) for row in SMALL}
            for row in SMALL:
                for other in SMALL:
                    self.assertIs(same_dry(row, other, time), prints[row] == prints[other], (row, other, time))

    def test_parting_times_of_all_small_rows(self):
        prints = {row: [plain_prints(row, time) for time in range(6)] for row in SMALL}
        seen = set()
        for row in SMALL:
            for other in SMALL:
                times = [time for time in range(6) if prints[row][time] != prints[other][time]]
                self.assertEqual(parting_time(row, other), times[0] if times else None)
                # At all times the same is printed by one row alone.
                self.assertEqual(not times, row == other)
                seen.add(parting_time(row, other))
        self.assertEqual(seen, {None, 1, 2})

    def test_made_rows(self):
        rng = made(194)
        found = set()
        for _ in range(300):
            row = made_folds(rng, 6, 3, 2)
            # The ways from drop to drop, at the time 1, exchanged two and two, lead to a row that is alike then.
            ways = []
            for h in row:
                ways.append(h - (ways[-1] if ways else 0))
            at = rng.randrange(len(ways))
            others = list(range(at % 2, len(ways), 2))
            further = rng.choice(others)
            ways[at], ways[further] = ways[further], ways[at]
            other = tuple(a + b for a, b in zip([0] + ways, ways))
            time = rng.randint(0, 7)
            same = plain_prints(row, time) == plain_prints(other, time)
            self.assertIs(same_dry(row, other, time), same)
            times = [t for t in range(8) if plain_prints(row, t) != plain_prints(other, t)]
            self.assertEqual(parting_time(row, other), min(times, default=None))
            self.assertIs(same_dry(row, other, 1), True)
            found.add(parting_time(row, other))
        self.assertTrue({None, 2} <= found, found)

    def test_parting_times_over_all_times(self):
        rows = [(), (3,), (0, 1, 3), (2, 3, 1), (0, 2, 3), (0, 2, 6), (0, 4, 6), (1, 1, 1), (1, 1, 1, 1)]
        prints = {row: [plain_prints(row, time) for time in range(101)] for row in rows}
        for row in rows:
            for other in rows:
                times = [time for time in range(101) if prints[row][time] != prints[other][time]]
                self.assertEqual(parting_time(row, other), min(times, default=None))
                for time in (0, 1, 2, 3, 50, 99, 100):
                    self.assertIs(same_dry(row, other, time), time not in times)

    def test_the_time_1_by_middles_and_shifts(self):
        for row in SMALL:
            for other in SMALL:
                self.assertEqual(same_dry(row, other, 1), middles_and_shifts(row) == middles_and_shifts(other))

    def test_times_above_the_folds_as_rows_that_are_alike(self):
        self.assertIs(rows_alike((0, 2, 6), (0, 4, 6)), True)
        for time in (3, 4, 100):
            self.assertIs(same_dry((0, 2, 6), (0, 4, 6), time), True)
        self.assertIs(same_dry((0, 2, 6), (0, 4, 6), 1), False)
        self.assertEqual(parting_time((0, 2, 6), (0, 4, 6)), 1)
        rng = made(195)
        for _ in range(100):
            row, other = made_folds(rng, 4, 3), made_folds(rng, 4, 3)
            self.assertEqual(same_dry(row, other, 100), rows_alike(row, other))

    def test_the_time_0_and_no_folds(self):
        self.assertIs(same_dry((), (1, 2, 3), 0), True)
        self.assertIs(same_dry((), (1,), 1), False)
        self.assertIs(same_dry((), (), 100), True)
        self.assertIsNone(parting_time((), ()))
        self.assertEqual(parting_time((), (5,)), 1)
        self.assertEqual(parting_time((5,) * 12, (5,) * 11), 1)

    def test_far_creases(self):
        rows = [(TOP, -TOP) * 6, (-TOP, TOP) * 6, (TOP, -TOP) * 5 + (TOP, TOP), (TOP,) * 12, (TOP, -TOP, TOP)]
        for row in rows:
            for other in rows:
                self.assertEqual(parting_time(row, other), None if row == other else 1)
                for time in (1, 2, 12):
                    same = plain_dry(10 ** 8, row, time) == plain_dry(10 ** 8, other, time)
                    same = same and plain_dry(0, row, time) == plain_dry(0, other, time)
                    self.assertIs(same_dry(row, other, time), same)


if __name__ == "__main__":
    unittest.main()
