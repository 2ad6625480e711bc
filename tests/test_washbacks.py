"""wetfolds.washbacks: washed strips led back, against washing all small strips."""

import unittest
from itertools import product

from tests.support import FAR, HUGE, PRIMES, made, made_folds, plainly_folded, plainly_modulo
from wetfolds.errors import TooMany
from wetfolds.washbacks import washed_from
from wetfolds.washings import washed_by

ROWS = [row for many in range(1, 4) for row in product(range(-2, 3), repeat=many)]
PLACES = {2: range(-4, 5), 3: range(-2, 3), 5: range(-1, 3), 7: range(-1, 2)}


def all_strips(prime):
    """All strips on some places with drops less than a prime."""
    for many in product(range(prime), repeat=len(PLACES[prime])):
        yield tuple((place, drops) for place, drops in zip(PLACES[prime], many) if drops)


def lies_right(strip, crease, prime):
    return all(2 * x > crease or 2 * x == crease and prime != 2 for x, _ in strip)


class WashBacks(unittest.TestCase):
    def test_all_small_strips_by_all_small_rows(self):
        for prime in PRIMES:
            strips = list(all_strips(prime))
            for row in ROWS[::1 if prime == 2 else 2]:
                if prime == 2 and any(a == b for a, b in zip(row, row[1:])):
                    for strip in strips[::7]:
                        self.assertEqual(washed_from(strip, row, prime), None if strip else ())
                    continue
                from_one = {}
                for strip in strips:
                    if lies_right(strip, row[0], prime):
                        came = washed_by(strip, row, prime)
                        # There is one such strip at most.
                        self.assertNotIn(came, from_one)
                        from_one[came] = strip
                for strip in strips:
                    # What came within the places came of a strip within them.
                    self.assertEqual(washed_from(strip, row, prime), from_one.get(strip), (strip, row, prime))

    def test_longer_strips_are_led_back(self):
        rng = made(69)
        for prime in PRIMES:
            for _ in range(150):
                row = made_folds(rng, 6, 9, 1)
                first = row[0] // 2 + 1 if prime == 2 else (row[0] + 1) // 2
                places = sorted(rng.sample(range(first, first + 12), rng.randint(1, 4)))
                strip = tuple((x, rng.randint(1, prime - 1)) for x in places)
                came = plainly_modulo(plainly_folded(strip, row), prime)
                if prime == 2 and any(a == b for a, b in zip(row, row[1:])):
                    self.assertEqual(came, ())
                    self.assertEqual(washed_from(came, row, prime), ())
                else:
                    self.assertEqual(washed_from(came, row, prime), strip)
                    more = tuple((x, drops + prime * rng.randint(0, 9)) for x, drops in came)
                    more = more + ((came[-1][0] + 50, prime * HUGE),)
                    if len(more) <= 200:
                        self.assertEqual(washed_from(more, row, prime), strip)
                    self.assertIsNone(washed_from(came + ((came[-1][0] + 1, 1),), row, prime))

    def test_drops_come_back_where_the_strip_has_none(self):
        # Modulo 2 these four folds leave but two places, and the way back goes by places between.
        strip = ((2, 1),)
        came = washed_by(strip, (2, 4, 8, 16), 2)
        self.assertEqual(len(came), 2)
        self.assertEqual(washed_from(came, (2, 4, 8, 16), 2), strip)
        strip = tuple((x, 1) for x in range(1, 101))
        for row in ((0, 1), (0, -1), (0, 1, 0), (0, 2, 1)):
            came = washed_by(strip, row, 2)
            self.assertLessEqual(len(came), 10)
            self.assertEqual(washed_from(came, row, 2), strip)

    def test_no_pairs(self):
        for prime in PRIMES:
            for row in ((0,), (1, 1), (3, 5, 3), (2,) * 12, (10 ** 6, -10 ** 6)):
                self.assertEqual(washed_from((), row, prime), ())
                self.assertEqual(washed_from(((-FAR, prime), (FAR, prime * HUGE)), row, prime), ())

    def test_steps_of_0(self):
        for prime in (3, 5, 7):
            for many in range(1, 13):
                strip = ((3, 1), (5, prime - 1))
                came = plainly_modulo(plainly_folded(strip, (6,) * many), prime)
                self.assertEqual(washed_from(came, (6,) * many, prime), strip)
        self.assertIsNone(washed_from(((3, 1),), (6, 6), 2))
        self.assertIsNone(washed_from(((2, 1), (4, 1)), (6, 6), 2))
        self.assertEqual(washed_from(((2, 2), (4, 4)), (6, 6), 2), ())

    def test_a_drop_on_the_crease(self):
        self.assertIsNone(washed_from(((3, 1),), (6,), 2))
        self.assertIsNone(washed_from(((2, 1), (3, 1), (4, 1)), (6,), 2))
        self.assertEqual(washed_from(((2, 1), (3, 2), (4, 1)), (6,), 2), ((4, 1),))
        for prime in (3, 5, 7):
            for drops in range(1, prime):
                self.assertEqual(washed_from(((3, 2 * drops),), (6,), prime), ((3, drops),))
                self.assertEqual(washed_from(((3, 2 * drops + prime),), (6,), prime), ((3, drops),))

    def test_how_far_apart(self):
        for prime in PRIMES:
            strip = ((0, 1), (4000, 1))
            self.assertEqual(washed_from(strip, (4000,), prime), ((4000, 1),))
            self.assertIsNone(washed_from(strip, (3999,), prime))
            self.assertIsNone(washed_from(strip, (5, 10 ** 6), prime))
            self.assertIsNone(washed_from(strip, (0, 4001), prime))
            half = None if prime == 2 else ((0, (prime + 1) // 2),)
            self.assertEqual(washed_from(strip, (0, 4000), prime), half)
            far = ((FAR - 4000, 1), (FAR, 1))
            self.assertIsNone(washed_from(far, (10 ** 6,), prime))
            self.assertEqual(washed_from(((-1, prime),) + ((0, 1), (4000, 1), (9000, prime)), (4000,), prime),
                             ((4000, 1),))
            for row in ((4001,), (1,), (0, 1), (3, 3), (5,) * 12):
                for strip in (((0, 1), (4001, 1)), ((-FAR, 1), (FAR, 1)), ((0, 1), (1, 1), (4001, prime + 1))):
                    with self.assertRaises(TooMany) as caught:
                        washed_from(strip, row, prime)
                    self.assertEqual(caught.exception.limit, 4000)
                self.assertIsNone(washed_from(((0, 1), (4001, prime)), row, prime))

    def test_many_places_between(self):
        rng = made(70)
        for prime in PRIMES:
            row = (0, 500, -250, 250)
            before = tuple((x, rng.randint(1, prime - 1)) for x in sorted(rng.sample(range(1, 1200), 12)))
            came = washed_by(before, row, prime)
            self.assertLessEqual(len(came), 200)
            self.assertGreater(came[-1][0] - came[0][0], 2000)
            self.assertEqual(washed_from(came, row, prime), before)


if __name__ == "__main__":
    unittest.main()
