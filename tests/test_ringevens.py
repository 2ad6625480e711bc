"""wetfolds.ringevens: drops spread evenly over rings, against folding them."""

import unittest
from itertools import product

from tests.support import made, made_folds, plain_ring_print
from wetfolds.ringevens import fewest_even, is_spread_evenly, lacking_power
from wetfolds.rings import ring_print
from wetfolds.strips import are_folds

SMALL = [row for many in range(4) for row in product(range(-2, 4), repeat=many)]


def is_even(drops):
    return len(set(drops)) == 1


def plain_twos(number):
    """The greatest power of two that divides an integer other than 0."""
    power = 1
    while number % (2 * power) == 0:
        power *= 2
    return power


def plain_lacking(size, spot, row):
    """What the document says of the power that lacks, for a drop that is not spread evenly."""
    ways = [abs(2 * spot - row[0])] if row else []
    ways += [abs(a - b) for a, b in zip(row, row[1:])]
    powers = [2 ** e for e in range(20) if 2 ** e < size]
    if size not in [2 ** e for e in range(20)]:
        return None
    there = {plain_twos(way) for way in ways if way}
    return min([power for power in powers if power not in there], default=None)


class SpreadEvenly(unittest.TestCase):
    def test_all_small_rows_on_all_small_rings(self):
        evenly = 0
        for row in SMALL:
            for size in range(1, 9):
                for spot in range(size):
                    even = is_even(plain_ring_print(size, spot, row))
                    evenly += even and size > 2
                    self.assertIs(is_spread_evenly(size, spot, row), even, (size, spot, row))
                    self.assertEqual(lacking_power(size, spot, row), None if even else plain_lacking(size, spot, row))
                    if even:
                        self.assertIsNone(plain_lacking(size, spot, row))
        self.assertGreater(evenly, 100)

    def test_made_rows(self):
        rng = made(111)
        evenly = 0
        for _ in range(400):
            size = rng.choice((1, 2, 4, 8, 16, 32, 64, 3, 6, 12, 24, 63))
            spot = rng.randrange(size)
            row = made_folds(rng, 12, rng.choice((20, 200, 10 ** 6)), rng.choice((0, 8)))
            even = is_even(plain_ring_print(size, spot, row))
            evenly += even and size > 2
            self.assertIs(is_spread_evenly(size, spot, row), even)
            self.assertEqual(lacking_power(size, spot, row), plain_lacking(size, spot, row))
            self.assertEqual(even, is_even(ring_print(size, spot, row)))
        self.assertGreater(evenly, 50)

    def test_only_on_rings_of_powers_of_two(self):
        for size in (3, 5, 6, 7, 12, 24, 63, 4095, 4097, 10 ** 6, 999999, 3 * 2 ** 18):
            for row in ((), (1,), (1, 3, 7), tuple(2 ** k for k in range(12)), (0,) * 12):
                self.assertIs(is_spread_evenly(size, 0, row), False)
                self.assertIsNone(lacking_power(size, size - 1, row))
            self.assertIsNone(fewest_even(size, 0))
            self.assertIsNone(fewest_even(size, size - 1))

    def test_one_place(self):
        for row in ((), (0,), (1, 1), tuple(range(12))):
            self.assertIs(is_spread_evenly(1, 0, row), True)
            self.assertIsNone(lacking_power(1, 0, row))
        self.assertEqual(fewest_even(1, 0), ())

    def test_no_folds_and_steps_of_0(self):
        self.assertIs(is_spread_evenly(2, 0, ()), False)
        for size in (2, 4, 64, 4096, 2 ** 19):
            self.assertEqual(lacking_power(size, 1, ()), 1)
            self.assertEqual(lacking_power(size, 1, (2, 2, 2)), 1)
        # The first way is 0, both steps are, so no power of two is the twos of one.
        self.assertEqual(lacking_power(2, 0, (0, 0, 0)), 1)
        self.assertIs(is_spread_evenly(2, 0, (1, 1, 1)), True)
        self.assertIs(is_spread_evenly(4, 0, (1, 1, 3)), True)
        self.assertEqual(lacking_power(4, 0, (1, 1, 1)), 2)

    def test_great_powers(self):
        row = tuple(2 ** k for k in range(12))
        # The first way of a drop at 0 is 1, the steps are 1, 2, 4 .. 1024.
        self.assertIs(is_spread_evenly(2048, 0, row), True)
        self.assertIs(is_spread_evenly(4096, 0, row), False)
        self.assertEqual(lacking_power(4096, 0, row), 2048)
        self.assertEqual(lacking_power(8192, 0, row), 2048)
        self.assertEqual(lacking_power(2 ** 19, 0, row), 2048)
        self.assertEqual(lacking_power(2 ** 19, 0, (1, 3, 11)), 4)
        self.assertEqual(lacking_power(2 ** 19, 2 ** 19 - 1, (1,)), 2)
        whole = fewest_even(4096, 0)
        for size in (8192, 2 ** 19):
            self.assertEqual(lacking_power(size, 0, whole), 4096)
            self.assertIs(is_spread_evenly(size, 0, whole), False)


class FewestEven(unittest.TestCase):
    def check(self, size, spot):
        row = fewest_even(size, spot)
        self.assertIs(are_folds(row), True)
        self.assertEqual(2 ** len(row), size)
        self.assertTrue(is_even(plain_ring_print(size, spot, row)), (size, spot, row))
        self.assertIs(is_spread_evenly(size, spot, row), True)

    def test_rows_spread_evenly(self):
        for e in range(7):
            for spot in range(2 ** e):
                self.check(2 ** e, spot)
        for e in range(7, 13):
            for spot in (0, 1, 2 ** (e - 1), 2 ** e - 1):
                self.check(2 ** e, spot)

    def test_none_with_fewer_folds(self):
        for size, creases in ((2, range(2)), (4, range(4)), (8, range(8))):
            for spot in range(size):
                for many in range(len(fewest_even(size, spot))):
                    for row in product(creases, repeat=many):
                        self.assertFalse(is_even(plain_ring_print(size, spot, row)))

    def test_none_at_all(self):
        for size in (3, 5, 6, 7):
            self.assertIsNone(fewest_even(size, 1))
            for many in range(4):
                for row in product(range(size), repeat=many):
                    self.assertFalse(is_even(plain_ring_print(size, 1, row)))
        for e in range(13, 20):
            self.assertIsNone(fewest_even(2 ** e, 0))
            self.assertIsNone(fewest_even(2 ** e, 2 ** e - 1))


if __name__ == "__main__":
    unittest.main()
