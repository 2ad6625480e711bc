"""wetfolds.strippings: taking away, what two strips have in common, making thinner."""

import unittest
from collections import Counter

from tests.support import FAR, HUGE, long_strip, made, made_strip
from wetfolds.strippings import common_drops, made_thinner, taken_away, thinnest_by


def strip_of_counts(counts):
    return tuple(sorted((x, drops) for x, drops in counts.items() if drops > 0))


class Strippings(unittest.TestCase):
    def test_taken_away(self):
        self.assertEqual(taken_away((), ()), ())
        self.assertEqual(taken_away(((0, 3),), ()), ((0, 3),))
        self.assertIsNone(taken_away((), ((0, 1),)))
        self.assertEqual(taken_away(((0, 3),), ((0, 3),)), ())
        self.assertIsNone(taken_away(((0, 3),), ((0, 4),)))
        self.assertIsNone(taken_away(((0, 3),), ((1, 1),)))
        self.assertEqual(taken_away(((0, 3), (2, 1)), ((2, 1),)), ((0, 3),))
        self.assertIsNone(taken_away(((0, 3), (2, 1)), ((0, 1), (2, 2))))
        self.assertEqual(taken_away(((0, HUGE),), ((0, 1),)), ((0, HUGE - 1),))
        self.assertEqual(taken_away(long_strip(200), long_strip(199)), ((199, 1),))

    def test_common_drops(self):
        self.assertEqual(common_drops((), ()), ())
        self.assertEqual(common_drops(((0, 3),), ()), ())
        self.assertEqual(common_drops(((0, 3),), ((0, 5),)), ((0, 3),))
        self.assertEqual(common_drops(((0, 5),), ((0, 3),)), ((0, 3),))
        self.assertEqual(common_drops(((0, 5), (1, 1)), ((1, 3), (2, 1))), ((1, 1),))

    def test_made_thinner(self):
        self.assertEqual(made_thinner((), 1), ())
        self.assertEqual(made_thinner((), FAR), ())
        self.assertEqual(made_thinner(((0, 3), (4, 9)), 1), ((0, 3), (4, 9)))
        self.assertEqual(made_thinner(((0, 3), (4, 9)), 3), ((0, 1), (4, 3)))
        self.assertIsNone(made_thinner(((0, 3), (4, 9)), 9))
        self.assertIsNone(made_thinner(((0, 3), (4, 9)), 2))
        self.assertIsNone(made_thinner(((0, 3),), FAR))
        self.assertEqual(made_thinner(((0, HUGE),), 10), ((0, HUGE // 10),))

    def test_thinnest_by(self):
        self.assertIsNone(thinnest_by(()))
        self.assertEqual(thinnest_by(((5, 7),)), 7)
        self.assertEqual(thinnest_by(((5, 7), (6, 5))), 1)
        self.assertEqual(thinnest_by(((0, 12), (1, 18), (2, 30))), 6)
        self.assertEqual(thinnest_by(((0, HUGE), (1, 3 * HUGE))), HUGE)

    def test_against_counting(self):
        rng = made(8)
        for _ in range(400):
            strip, other = made_strip(rng, 4, 3, 6), made_strip(rng, 2, 3, 4)
            left = Counter(dict(strip))
            left.subtract(Counter(dict(other)))
            fits = all(drops >= 0 for drops in left.values())
            self.assertEqual(taken_away(strip, other), strip_of_counts(left) if fits else None)
            common = {x: min(dict(strip).get(x, 0), dict(other).get(x, 0)) for x in range(-3, 4)}
            self.assertEqual(common_drops(strip, other), strip_of_counts(common))
            fitting = [n for n in range(1, 8) if all(drops % n == 0 for _, drops in strip)]
            for number in range(1, 8):
                thin = tuple((x, drops // number) for x, drops in strip)
                self.assertEqual(made_thinner(strip, number), thin if number in fitting else None)
            if strip:
                self.assertEqual(thinnest_by(strip), max(fitting))


if __name__ == "__main__":
    unittest.main()
