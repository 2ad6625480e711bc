"""wetfolds.washings: strips folded modulo primes, and washed out, against folding drop by drop."""

import unittest
from itertools import product

from tests.support import (
    FAR, HUGE, PRIMES, long_strip, made, made_folds, made_strip, near_first, plain_wash, plainly_folded,
    plainly_modulo,
)
from wetfolds.errors import TooMany
from wetfolds.washings import count_inked, washed_by, washes_out

ROWS = [row for many in range(4) for row in product(range(-1, 3), repeat=many)]
DOUBLING = (399, 799, 1599, 3199, 6399)


class Washings(unittest.TestCase):
    def test_strips_against_folding(self):
        rng = made(66)
        for prime in PRIMES:
            for _ in range(300):
                strip, row = made_strip(rng, 4, 4, 8), made_folds(rng, 4, 6)
                came = plainly_modulo(plainly_folded(strip, row), prime)
                self.assertEqual(washed_by(strip, row, prime), came)
                self.assertIs(washes_out(strip, row, prime), came == ())

    def test_strips_that_are_washed_out(self):
        # All strips on a few places, by all small rows.
        for prime in (2, 3):
            for many in product(range(prime + 1), repeat=3):
                strip = tuple((place, drops) for place, drops in zip((-1, 0, 1), many) if drops)
                for row in ROWS:
                    came = plainly_modulo(plainly_folded(strip, row), prime)
                    self.assertIs(washes_out(strip, row, prime), came == (), (strip, row, prime))
                    self.assertEqual(washed_by(strip, row, prime), came)

    def test_drops_beside_the_first_crease(self):
        rng = made(67)
        for prime in PRIMES:
            done = 0
            for _ in range(200):
                row = made_folds(rng, 5, 5, 1)
                half = [(x, rng.randint(1, 9)) for x in sorted(rng.sample(range(-6, 7), 3)) if 2 * x != row[0]]
                strip = dict(half)
                for x, drops in half:
                    strip[row[0] - x] = prime * 3 - drops % prime
                if row[0] % 2 == 0:
                    strip[row[0] // 2] = prime
                strip = tuple(sorted(strip.items()))
                lie = {x: drops for x, drops in strip}
                out = all((drops + lie.get(row[0] - x, 0)) % prime == 0 for x, drops in strip)
                out = out or prime == 2 and any(a == b for a, b in zip(row, row[1:]))
                self.assertIs(washes_out(strip, row, prime), out)
                self.assertIs(washes_out(strip, row, prime), washed_by(strip, row, prime) == ())
                done += out
            self.assertGreater(done, 50)

    def test_no_folds_and_no_pairs(self):
        for prime in PRIMES:
            self.assertEqual(washed_by((), (), prime), ())
            self.assertEqual(washed_by((), (3, 5), prime), ())
            self.assertIs(washes_out((), (), prime), True)
            self.assertIs(washes_out((), (3,), prime), True)
            self.assertEqual(washed_by(((4, prime + 1), (5, prime)), (), prime), ((4, 1),))
            self.assertIs(washes_out(((4, prime + 1), (5, prime)), (), prime), False)
            self.assertIs(washes_out(((4, prime * HUGE), (5, prime)), (), prime), True)

    def test_a_drop_that_lies_on_itself(self):
        for prime in PRIMES:
            self.assertEqual(washed_by(((3, 1),), (6,), prime), () if prime == 2 else ((3, 2),))
            self.assertIs(washes_out(((3, 1),), (6,), prime), prime == 2)
            self.assertIs(washes_out(((3, 1),), (6, 1, 5), prime), prime == 2)
            self.assertIs(washes_out(((3, prime),), (6,), prime), True)

    def test_equal_creases(self):
        for row in ((5, 5), (0, 1, 1), (2, 0, 0, 2), (7,) * 12):
            self.assertEqual(washed_by(((0, 1), (9, 5)), row, 2), ())
            self.assertIs(washes_out(((0, 1), (9, 5)), row, 2), True)
            self.assertEqual(count_inked(3, row, 2), 0)
            self.assertIs(washes_out(((0, 1), (9, 5)), row, 3), False)

    def test_prints(self):
        for prime in PRIMES:
            for row in ROWS:
                for place in near_first(3):
                    self.assertEqual(count_inked(place, row, prime), len(plain_wash(place, row, prime)))
        rng = made(68)
        for prime in PRIMES:
            for many in (8, 12, 12):
                row = made_folds(rng, many, 15, many)
                self.assertEqual(count_inked(2, row, prime), len(plain_wash(2, row, prime)))
        for place in (FAR, -FAR):
            for prime in PRIMES:
                self.assertEqual(count_inked(place, (), prime), 1)
                self.assertEqual(count_inked(place, (10 ** 6, -10 ** 6), prime), 4)
        self.assertEqual(count_inked(0, tuple(3 ** k for k in range(12)), 5), 4096)
        self.assertEqual(count_inked(0, tuple(2 ** k for k in range(12)), 2), 2)

    def test_limit_of_pairs(self):
        strip = long_strip(200)
        # Drops at 1400 places come twice by the last fold, and are none modulo 2.
        self.assertEqual(len(washed_by(strip, DOUBLING + (11399,), 2)), 10000)
        self.assertEqual(len(washed_by(strip, DOUBLING + (11398,), 2)), 9998)
        for prime in (3, 5, 7):
            self.assertEqual(len(washed_by(strip, DOUBLING + (9999,), prime)), 10000)
            self.assertEqual(len(washed_by(strip, DOUBLING + (9999, 9999), prime)), 10000)
        self.assertEqual(washed_by(strip, DOUBLING + (11399, 11399), 2), ())
        # The last ones of these rows have more pairs on the way alone.
        for prime, rows in ((2, [(11400,), (11400, 11400), (12798, 5), (11400, 11400, 3)]),
                            (3, [(10000,), (10000, 10000)]), (5, [(10000,)]), (7, [(10000,), (12000, 0)])):
            for row in rows:
                with self.assertRaises(TooMany) as caught:
                    washed_by(strip, DOUBLING + row, prime)
                self.assertEqual(caught.exception.limit, 10000)

    def test_pairs_count_modulo_the_prime(self):
        row = tuple(3 ** k for k in range(12))
        for prime in PRIMES:
            strip = tuple((x * 10 ** 6, prime) for x in range(200))
            self.assertEqual(washed_by(strip, row, prime), ())
            self.assertEqual(len(washed_by(strip[1:] + ((FAR, 1),), row, prime)), 4096)
            with self.assertRaises(TooMany):
                washed_by(strip[1:] + ((FAR, 1),), row, 5 if prime == 2 else 2)

    def test_only_strips_have_a_limit(self):
        strip = tuple((x * 10 ** 6, 1) for x in range(200))
        row = tuple(3 ** k for k in range(12))
        for prime in PRIMES:
            self.assertIs(washes_out(strip, row, prime), False)
            self.assertEqual(count_inked(5 * 10 ** 6, row, 7), 4096)
        half = tuple((x, 1) for x in range(-99, 101))
        self.assertIs(washes_out(half, (1,) + row[1:], 2), True)


if __name__ == "__main__":
    unittest.main()
