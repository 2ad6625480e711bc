"""wetfolds.strips: totals, laying together, moving, mirroring, the first place."""

import unittest
from collections import Counter

from tests.support import FAR, HUGE, drops_of, long_strip, made, made_strip, near_first, strip_of
from wetfolds.strips import first_place, laid_together, mirrored_strip, moved_strip, total_of

A, B = ((0, 1), (3, 2)), ((-2, 5), (3, 1))


class Strips(unittest.TestCase):
    def test_total(self):
        self.assertEqual(total_of(()), 0)
        self.assertEqual(total_of(((5, 7),)), 7)
        self.assertEqual(total_of(long_strip(200)), 200)
        self.assertEqual(total_of(((0, HUGE), (1, HUGE))), 2 * HUGE)

    def test_laid_together(self):
        self.assertEqual(laid_together((), ()), ())
        self.assertEqual(laid_together(A, ()), A)
        self.assertEqual(laid_together((), A), A)
        self.assertEqual(laid_together(A, A), ((0, 2), (3, 4)))
        self.assertEqual(laid_together(((1, 1),), ((-1, 1),)), ((-1, 1), (1, 1)))
        self.assertEqual(laid_together(((0, HUGE),), ((0, 1),)), ((0, HUGE + 1),))
        both = laid_together(long_strip(200), tuple((x + 200, 2) for x in range(200)))
        self.assertEqual(both, tuple((x, 1 if x < 200 else 2) for x in range(400)))

    def test_moved(self):
        self.assertEqual(moved_strip((), 5), ())
        self.assertEqual(moved_strip(A, 0), A)
        self.assertEqual(moved_strip(A, 7), ((7, 1), (10, 2)))
        self.assertEqual(moved_strip(A, -7), ((-7, 1), (-4, 2)))

    def test_mirrored(self):
        self.assertEqual(mirrored_strip((), 5), ())
        self.assertEqual(mirrored_strip(A, 0), ((-3, 2), (0, 1)))
        self.assertEqual(mirrored_strip(((1, 4),), 2), ((1, 4),))
        self.assertEqual(mirrored_strip(A, 3), ((0, 2), (3, 1)))
        self.assertEqual(mirrored_strip(A, -1), ((-4, 2), (-1, 1)))

    def test_against_single_drops(self):
        rng = made(1)
        for _ in range(300):
            strip, other = made_strip(rng), made_strip(rng)
            by = rng.randint(-30, 30)
            self.assertEqual(total_of(strip), len(drops_of(strip)))
            self.assertEqual(laid_together(strip, other), strip_of(drops_of(strip) + drops_of(other)))
            self.assertEqual(moved_strip(strip, by), strip_of([x + by for x in drops_of(strip)]))
            self.assertEqual(mirrored_strip(strip, by), strip_of([by - x for x in drops_of(strip)]))
            self.assertEqual(Counter(dict(laid_together(strip, other))), Counter(dict(strip)) + Counter(dict(other)))

    def test_first_place_in_the_order_of_places(self):
        self.assertIsNone(first_place(()))
        self.assertEqual(near_first(2), [0, 1, -1, 2, -2])
        order = near_first(8)
        for at, x in enumerate(order):
            self.assertEqual(first_place(((x, 3),)), x)
            for y in order[at + 1:]:
                self.assertEqual(first_place(tuple(sorted([(x, 1), (y, 9)]))), x)
        self.assertEqual(first_place(((-FAR, 1), (FAR, 1))), FAR)
        self.assertEqual(first_place(((-FAR, 1), (FAR - 1, 1))), FAR - 1)
        self.assertEqual(first_place(((1 - FAR, 1), (FAR, 1))), 1 - FAR)
        rng = made(2)
        for _ in range(200):
            strip = made_strip(rng)
            places = [x for x in near_first(20) if x in dict(strip)]
            self.assertEqual(first_place(strip), places[0] if places else None)


if __name__ == "__main__":
    unittest.main()
