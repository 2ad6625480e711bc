"""wetfolds.washforms: rows alike modulo primes, against the prints of all near places."""

import unittest
from itertools import product

from tests.support import (
    FAR, HUGE, PRIMES, long_strip, made, made_folds, made_strip, near_first, plain_wash, plainly_folded,
    plainly_modulo, row_by,
)
from wetfolds.washforms import alike_primes, strip_modulo, wash_alike, wash_form, wash_parting

NEAR = near_first(4)
SMALL_ROWS = [row for many in range(4) for row in product(range(-1, 3), repeat=many)]


def plain_form(row, prime):
    """The wash form, by making one of some equal steps as long as there are so many."""
    steps = [abs(a - b) for a, b in zip(row, row[1:])]
    halts = [step for step in steps if step == 0]
    if prime == 2 and halts:
        return ()
    steps = [step for step in steps if step]
    while True:
        often = [step for step in steps if steps.count(step) >= prime]
        if not often:
            rest = len(halts) % {2: 1, 3: 2, 5: 4, 7: 3}[prime]
            return (row[0], row[-1], rest, tuple(sorted(steps)))
        for _ in range(prime):
            steps.remove(max(often))
        steps.append(prime * max(often))


class WashForms(unittest.TestCase):
    def test_strips(self):
        rng = made(63)
        for _ in range(300):
            strip, prime = made_strip(rng, 6, 20, 30), rng.choice(PRIMES)
            self.assertEqual(strip_modulo(strip, prime), plainly_modulo(strip, prime))
        for prime in PRIMES:
            self.assertEqual(strip_modulo((), prime), ())
            self.assertEqual(strip_modulo(((5, prime),), prime), ())
            self.assertEqual(strip_modulo(((5, prime - 1),), prime), ((5, prime - 1),))
            self.assertEqual(strip_modulo(((-FAR, prime * HUGE), (FAR, prime * HUGE + 1)), prime), ((FAR, 1),))
            self.assertEqual(strip_modulo(long_strip(200), prime), long_strip(200))

    def test_alike_just_if_prints_of_near_places_are(self):
        for prime in PRIMES:
            prints = {row: tuple(plain_wash(place, row, prime) for place in NEAR) for row in SMALL_ROWS}
            for row in SMALL_ROWS:
                for other in SMALL_ROWS:
                    here, there = prints[row], prints[other]
                    self.assertEqual(wash_alike(row, other, prime), here == there)
                    parting = [place for place, a, b in zip(NEAR, here, there) if a != b]
                    self.assertEqual(wash_parting(row, other, prime), parting[0] if parting else None)
                    self.assertIn(wash_parting(row, other, prime), (None, 0, 1))
                    if row and other:
                        self.assertEqual(wash_form(row, prime) == wash_form(other, prime), here == there)

    def test_primes(self):
        for row in SMALL_ROWS:
            for other in SMALL_ROWS[::3]:
                self.assertEqual(alike_primes(row, other), tuple(p for p in PRIMES if wash_alike(row, other, p)))
        self.assertEqual(alike_primes((), ()), PRIMES)
        self.assertEqual(alike_primes((), (0, 0)), ())
        self.assertEqual(alike_primes((0, 2, 6), (0, 4, 6)), PRIMES)
        self.assertEqual(alike_primes((0, 0), (5, 3, 3)), (2,))
        self.assertEqual(alike_primes((1, 1, 1), (1,)), (3,))
        self.assertEqual(alike_primes((1,) * 5, (1,)), (3, 5))
        self.assertEqual(alike_primes((1,) * 4, (1,)), (7,))
        self.assertEqual(alike_primes((1,) * 5, (1, 1)), (2, 7))
        self.assertEqual(alike_primes((0, 1, 2, 3, 4, 5), (0, 5)), (5,))
        self.assertEqual(alike_primes(tuple(range(8)), (0, 7)), (7,))
        self.assertEqual(alike_primes((0, 3, 6), (0, 6)), (2,))

    def test_forms(self):
        rng = made(64)
        for prime in PRIMES:
            for _ in range(300):
                row = made_folds(rng, 12, rng.choice((1, 2, 5, 30)), 1)
                self.assertEqual(wash_form(row, prime), plain_form(row, prime))

    def test_steps_joined_again_and_again(self):
        self.assertEqual(wash_form(tuple(range(12)), 2), (0, 11, 0, (1, 2, 8)))
        self.assertEqual(wash_form(tuple(range(12)), 3), (0, 11, 0, (1, 1, 9)))
        self.assertEqual(wash_form(tuple(range(12)), 5), (0, 11, 0, (1, 5, 5)))
        self.assertEqual(wash_form(tuple(range(12)), 7), (0, 11, 0, (1, 1, 1, 1, 7)))
        self.assertEqual(wash_form((0, 1, 0, 2, -2, 6), 2), (0, 6, 0, (16,)))
        self.assertEqual(wash_form((0, 4, 6, 5, 6, 14), 2), (0, 14, 0, (16,)))
        self.assertEqual(wash_form((10 ** 6, -10 ** 6) * 6, 2), (10 ** 6, -10 ** 6, 0, (2 * 10 ** 6, 4 * 10 ** 6, 16 * 10 ** 6)))

    def test_steps_of_0(self):
        for prime, turns in ((3, 2), (5, 4), (7, 3)):
            for many in range(1, 13):
                self.assertEqual(wash_form((4,) * many, prime), (4, 4, (many - 1) % turns, ()))
                self.assertEqual(wash_alike((4,) * many, (4,), prime), (many - 1) % turns == 0)
        self.assertEqual(wash_form((4,), 2), (4, 4, 0, ()))
        for row in ((4, 4), (4,) * 12, (0, 1, 1, 0), (-10 ** 6, 10 ** 6, 10 ** 6)):
            self.assertEqual(wash_form(row, 2), ())
            self.assertIs(wash_alike(row, (7, 7), 2), True)
            self.assertIs(wash_alike(row, (7,), 2), False)
            self.assertIs(wash_alike(row, (), 2), False)

    def test_no_folds(self):
        for prime in PRIMES:
            self.assertIs(wash_alike((), (), prime), True)
            self.assertIsNone(wash_parting((), (), prime))
            for row in ((0,), (0, 0), (2, 2), (0, 1), (3,) * 12):
                self.assertIs(wash_alike((), row, prime), False)
                self.assertIs(wash_alike(row, (), prime), False)
                self.assertEqual(wash_parting(row, (), prime), wash_parting((), row, prime))
                self.assertIsNotNone(wash_parting(row, (), prime))
        self.assertEqual(wash_parting((0,), (), 3), 0)
        # Four drops are one modulo 3.
        self.assertEqual(wash_parting((0, 0), (), 3), 1)
        self.assertEqual(wash_parting((2, 2), (), 3), 0)

    def test_alike_rows_do_the_same(self):
        rng = made(65)
        done = 0
        for _ in range(600):
            prime = rng.choice(PRIMES)
            ways = [rng.randint(-3, 3) for _ in range(rng.randint(0, 3))]
            row = row_by(rng.randint(-3, 3), ways)
            at = rng.randint(0, len(ways))
            way = rng.choice((1, 2, -1))
            joined = row_by(row[0], ways[:at] + [prime * way] + ways[at:])
            parted = row_by(row[0], ways + [way] * prime)
            self.assertIs(wash_alike(joined, parted, prime), True)
            strip = made_strip(rng, 3, 6, 9)
            came = [plainly_modulo(plainly_folded(strip, some), prime) for some in (joined, parted)]
            self.assertEqual(came[0], came[1])
            others = [p for p in PRIMES if p != prime and not wash_alike(joined, parted, p)]
            for other in others:
                self.assertIn(wash_parting(joined, parted, other), (0, 1))
            done += len(others)
        self.assertGreater(done, 1000)

    def test_creases_at_their_limits(self):
        top = 10 ** 6
        for prime in PRIMES:
            self.assertEqual(wash_form((top, -top, top), prime),
                             (top, top, 0, (4 * top,) if prime == 2 else (2 * top,) * 2))
            self.assertIs(wash_alike((top, -top), (-top, top), prime), False)
            self.assertEqual(wash_parting((top, -top), (-top, top), prime), 0)
            self.assertIs(wash_alike((0, top, 0), (0, -top, 0), prime), True)


if __name__ == "__main__":
    unittest.main()
