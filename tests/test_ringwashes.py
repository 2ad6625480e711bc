"""wetfolds.ringwashes: rings that wash rows out, against folding each single drop on all small rings."""

import unittest
from itertools import product

from tests.support import made, made_folds
from wetfolds.ringwashes import ring_washes, washing_power, washing_rings
from wetfolds.rings import ring_print

ROWS = [row for many in range(4) for row in product(range(-2, 4), repeat=many)]


def plain_washes(size, row):
    """Whether each single drop on a ring comes evenly many times to each place."""
    for spot in range(size):
        odd = {spot}
        for h in row:
            # Modulo 2 two drops on one place are none.
            odd = odd ^ {(h - x) % size for x in odd}
        if odd:
            return False
    return True


class RingWashes(unittest.TestCase):
    def test_all_small_rows_on_all_small_rings(self):
        for row in ROWS:
            sizes = [size for size in range(1, 25) if plain_washes(size, row)]
            self.assertEqual([size for size in range(1, 25) if ring_washes(size, row)], sizes, row)
            told = washing_rings(row)
            if told is None:
                self.assertEqual(len(sizes), 24)
                self.assertTrue(any(a == b for a, b in zip(row, row[1:])))
            else:
                self.assertEqual([size for size in told if size < 25], sizes)

    def test_made_rows(self):
        rng = made(92)
        for _ in range(250):
            row = made_folds(rng, 6, rng.choice((12, 48, 100)), 1)
            rings = washing_rings(row)
            for size in (1, 2, 3, 4, 5, 6, 7, 8, 12, 15, 16, 24, 32, 40, 48, 60, 64):
                washes = plain_washes(size, row)
                self.assertIs(ring_washes(size, row), washes)
                self.assertIs(rings is None or size in rings, washes)

    def test_by_prints(self):
        rng = made(93)
        for _ in range(100):
            row, size = made_folds(rng, 5, 12), rng.randint(1, 64)
            even = all(drops % 2 == 0 for spot in range(size) for drops in ring_print(size, spot, row))
            self.assertIs(ring_washes(size, row), even)

    def test_rings_are_told_in_order_and_all_of_them(self):
        rng = made(94)
        for _ in range(40):
            row = made_folds(rng, 8, 30, 1)
            rings = washing_rings(row)
            if rings is not None:
                self.assertEqual(rings, sorted(set(rings)))
                self.assertEqual([size for size in range(1, 300) if ring_washes(size, row)],
                                 [size for size in rings if size < 300])
                for size in rings[-3:]:
                    if size <= 10 ** 6:
                        self.assertIs(ring_washes(size, row), True)

    def test_powers(self):
        rng = made(95)
        for _ in range(300):
            row, odd = made_folds(rng, 8, 60), rng.choice((3, 5, 7, 9, 15, 21, 45))
            power = washing_power(row, odd)
            if any(a == b for a, b in zip(row, row[1:])):
                self.assertIsNone(power)
            else:
                for e in range(8):
                    self.assertIs(ring_washes(odd * 2 ** e, row), e <= power)
                self.assertGreaterEqual(power, -1)
        for row in ROWS[::5]:
            for odd in (3, 5):
                powers = [e for e in range(3) if plain_washes(odd * 2 ** e, row)]
                power = washing_power(row, odd)
                self.assertEqual(powers, [e for e in range(3) if power is None or e <= power])

    def test_no_folds(self):
        self.assertEqual(washing_rings(()), [])
        for size in (1, 2, 3, 64, 10 ** 6):
            self.assertIs(ring_washes(size, ()), False)
        for odd in (3, 999999):
            self.assertEqual(washing_power((), odd), -1)

    def test_one_fold(self):
        for h in (1, -1, 7, 10 ** 6 - 1):
            self.assertEqual(washing_rings((h,)), [1])
            self.assertEqual(washing_power((h,), 3), -1)
        for h in (0, 2, -4, 10 ** 6):
            self.assertEqual(washing_rings((h,)), [1, 2])
            self.assertEqual(washing_power((h,), 3), -1)

    def test_equal_creases(self):
        for row in ((4, 4), (0, 1, 1), (3, 3, 9), (5,) * 12):
            self.assertIsNone(washing_rings(row))
            self.assertIsNone(washing_power(row, 3))
            self.assertIsNone(washing_power(row, 999999))
            for size in (1, 5, 64, 10 ** 6, 999999):
                self.assertIs(ring_washes(size, row), True)

    def test_great_sizes(self):
        top = 10 ** 6
        self.assertEqual(washing_rings((-top, top))[-1], 2 * top)
        self.assertIs(ring_washes(top, (-top, top)), True)
        self.assertIs(ring_washes(top - 1, (-top, top)), False)
        self.assertIs(ring_washes(999999, (0, 999999)), True)
        self.assertIs(ring_washes(999999, (1, 999998)), False)
        self.assertEqual(washing_power((0, 999999), 999999), 0)
        self.assertEqual(washing_power((0, 999999), 333333), 0)
        self.assertEqual(washing_power((0, 3 * 2 ** 18, -3 * 2 ** 17), 3), 18)
        row = (0, 2 ** 19) * 6
        self.assertEqual(washing_rings(row), [2 ** e for e in range(23)])
        self.assertEqual(washing_power(row, 3), -1)
        # 11 steps of 720720 == 2 ** 4 * 45045 have the twos 176 together, and 178 with the first way.
        row = (0, 720720) * 6
        odds = [odd for odd in range(1, 45046, 2) if 45045 % odd == 0]
        self.assertEqual(washing_rings(row), sorted(odd * 2 ** e for odd in odds for e in range(8)))
        self.assertEqual(len(odds), 48)
        for odd in odds[1:]:
            self.assertEqual(washing_power(row, odd), 7)
        self.assertIs(ring_washes(45045 * 2 ** 4, row), True)

    def test_first_ways_on_rings_of_powers_of_two(self):
        # Steps of 2 and 4 have the twos 6 together, the first way 2 more, or 1 where the first crease is odd.
        self.assertEqual(washing_rings((0, 2, 6)), [1, 2, 4, 8])
        self.assertEqual(washing_rings((1, 3, 7)), [1, 2, 4])
        self.assertIs(plain_washes(8, (0, 2, 6)), True)
        self.assertIs(plain_washes(8, (1, 3, 7)), False)


if __name__ == "__main__":
    unittest.main()
