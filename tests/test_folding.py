"""wetfolds.folding: one fold, rows of folds, their beginnings, drops at a place."""

import unittest

from tests.support import (
    FAR, HUGE, long_strip, made, made_folds, made_strip, plain_fold, plainly_folded,
)
from wetfolds.errors import TooMany
from wetfolds.folding import drops_at, folded, folded_by, folded_on

TOP = 10 ** 6
# The strip of 200 drops side by side has 400, 800 .. of them behind these folds, in the end 10000 or 10001.
DOUBLING = (399, 799, 1599, 3199, 6399)


class Folding(unittest.TestCase):
    def test_edges(self):
        self.assertEqual(folded((), 5), ())
        self.assertEqual(folded_by((), (1, 2, 3)), ())
        self.assertEqual(folded_by(((1, 2),), ()), ((1, 2),))
        self.assertEqual(folded_on((), ()), [()])
        self.assertEqual(folded_on((), (1, 2)), [(), (), ()])
        self.assertEqual(folded(((1, 3), (2, 1)), 2), ((0, 1), (1, 6), (2, 1)))
        self.assertEqual(folded(((0, 3), (2, 1)), 2), ((0, 4), (2, 4)))
        self.assertEqual(folded(((0, HUGE),), 1), ((0, HUGE), (1, HUGE)))
        self.assertEqual(folded_by(((1, 1),), (2,) * 12), ((1, 4096),))
        self.assertEqual(folded_by(((0, 1),), (1,) * 12), ((0, 2048), (1, 2048)))

    def test_limits(self):
        far = ((-FAR, 1), (FAR, 2))
        self.assertEqual(folded(far, TOP), ((-FAR, 1), (TOP - FAR, 2), (FAR, 2), (TOP + FAR, 1)))
        self.assertEqual(folded(far, -TOP), ((-FAR - TOP, 2), (-FAR, 1), (FAR - TOP, 1), (FAR, 2)))
        self.assertEqual(folded_by(((FAR, 1),), (TOP, -TOP)),
                         ((-FAR - TOP, 1), (TOP - FAR, 1), (FAR - 2 * TOP, 1), (FAR, 1)))
        self.assertEqual(len(folded(long_strip(200), 399)), 400)
        self.assertEqual(len(folded(tuple((x * 7, 1) for x in range(200)), TOP)), 400)

    def test_against_single_drops(self):
        rng = made(3)
        for _ in range(300):
            strip, folds = made_strip(rng), made_folds(rng)
            beginnings = [plainly_folded(strip, folds[:many]) for many in range(len(folds) + 1)]
            self.assertEqual(folded_on(strip, folds), beginnings)
            self.assertEqual(folded_by(strip, folds), beginnings[-1])
            if folds:
                self.assertEqual(folded(strip, folds[0]), beginnings[1])

    def test_twelve_folds(self):
        rng = made(4)
        for _ in range(5):
            strip = made_strip(rng, 3, 10, 2)
            folds = made_folds(rng, 12, 30, 12)
            self.assertEqual(folded_by(strip, folds), plainly_folded(strip, folds))
            self.assertEqual(len(folded_on(strip, folds)), 13)

    def test_too_many_pairs(self):
        strip = long_strip(200)
        exact = folded_by(strip, DOUBLING + (9999,))
        self.assertEqual([place for place, drops in exact], list(range(10000)))
        self.assertEqual(folded_on(strip, DOUBLING + (9999,))[-1], exact)
        self.assertEqual(len(folded_on(strip, DOUBLING + (9999,) * 7)), 13)
        for function in (folded_by, folded_on):
            for folds in (DOUBLING + (10000,), DOUBLING + (10000, 10000), DOUBLING + (12000, 5)):
                with self.assertRaises(TooMany) as caught:
                    function(strip, folds)
                self.assertEqual(caught.exception.limit, 10000)

    def test_drops_at_against_single_drops(self):
        rng = made(5)
        for _ in range(200):
            strip, folds = made_strip(rng), made_folds(rng)
            drops = plain_fold([x for x, many in strip for _ in range(many)], folds)
            for place in list(range(-8, 9)) + drops[-3:]:
                self.assertEqual(drops_at(strip, folds, place), drops.count(place))

    def test_drops_at_has_no_limit(self):
        strip = tuple((x * 10 ** 5, x + 1) for x in range(200))
        folds = tuple(4 ** k for k in range(10)) + (0, 7)
        with self.assertRaises(TooMany):
            folded_by(strip, folds)
        drops = {}
        for place, many in strip:
            for x in plain_fold([place], folds):
                drops[x] = drops.get(x, 0) + many
        self.assertGreater(len(drops), 10000)
        for place in sorted(drops)[::9973] + [FAR, -FAR, 12345678]:
            self.assertEqual(drops_at(strip, folds, place), drops.get(place, 0))
        self.assertEqual(drops_at((), (1, 2), 0), 0)
        self.assertEqual(drops_at(((0, HUGE),), (0,) * 12, 0), 4096 * HUGE)


if __name__ == "__main__":
    unittest.main()
