"""wetfolds.foldbacks: rows looked back, against folding all strips that can have been there."""

import unittest
from itertools import product
from math import prod

from tests.support import FAR, HUGE, long_strip, made, made_folds, made_strip, plainly_folded
from wetfolds.foldbacks import count_before, strip_before, stuck_fold
from wetfolds.folding import folded_by

ROWS = [row for many in range(4) for row in product(range(-2, 3), repeat=many)]


def strips_within(strip):
    """All strips with no more drops than a strip has at any place."""
    found = []
    for many in product(*[range(drops + 1) for _, drops in strip]):
        found.append(tuple((place, here) for (place, _), here in zip(strip, many) if here))
    return found


def count_within(strip):
    """How many strips these are."""
    return prod(drops + 1 for _, drops in strip)


def mirrored(strip, h):
    return tuple(sorted((h - x, drops) for x, drops in strip))


def plain_stuck(strip, folds):
    """The index of the fold that cannot be undone, by trying all strips that can be left."""
    for at in range(len(folds) - 1, -1, -1):
        left = [came for came in strips_within(strip) if plainly_folded(came, folds[at:at + 1]) == strip]
        if at > 0:
            left = [came for came in left if mirrored(came, folds[at - 1]) == came]
            assert len(left) < 2
        if not left:
            return at
        strip = left[0]
    return None


def plain_before(strip, folds):
    """All strips of which a strip came by a row."""
    return [came for came in strips_within(strip) if plainly_folded(came, folds) == strip]


class FoldBacks(unittest.TestCase):
    def check(self, strip, folds):
        before = plain_before(strip, folds)
        self.assertEqual(count_before(strip, folds), len(before))
        self.assertEqual(stuck_fold(strip, folds), plain_stuck(strip, folds))
        self.assertEqual(stuck_fold(strip, folds) is None, len(before) > 0)
        if folds:
            before = [came for came in before if all(2 * x >= folds[0] for x, _ in came)]
        self.assertLess(len(before), 2)
        self.assertEqual(strip_before(strip, folds), before[0] if before else None)

    def test_what_came_by_rows(self):
        rng = made(51)
        for row in ROWS:
            for _ in range(3):
                strip = plainly_folded(made_strip(rng, 2, 2, 2), row)
                if count_within(strip) <= 3000:
                    self.check(strip, row)

    def test_what_came_by_other_rows(self):
        rng = made(52)
        done = 0
        for _ in range(1500):
            row = rng.choice(ROWS)
            strip = plainly_folded(made_strip(rng, 2, 3, 2), made_folds(rng, 2, 3) + row[-1:])
            if count_within(strip) <= 400:
                self.check(strip, row)
                done += stuck_fold(strip, row) not in (None, len(row) - 1)
        self.assertGreater(done, 100)

    def test_any_strips(self):
        rng = made(53)
        for _ in range(1000):
            strip = made_strip(rng, 4, 2, 3)
            if count_within(strip) <= 300:
                self.check(strip, rng.choice(ROWS))

    def test_no_folds_and_no_pairs(self):
        for strip in ((), ((0, 1),), ((0, 1), (3, 2)), ((-FAR, HUGE), (FAR, 1)), long_strip(200)):
            self.assertIsNone(stuck_fold(strip, ()))
            self.assertEqual(count_before(strip, ()), 1)
            self.assertEqual(strip_before(strip, ()), strip)
        for row in ((0,), (1, 1), (5, -3, 7), (10 ** 6, -10 ** 6), (0,) * 12):
            self.assertIsNone(stuck_fold((), row))
            self.assertEqual(count_before((), row), 1)
            self.assertEqual(strip_before((), row), ())

    def test_a_drop_that_lies_on_itself(self):
        self.assertEqual(stuck_fold(((3, 5),), (6,)), 0)
        self.assertEqual(count_before(((3, 5),), (6,)), 0)
        self.assertIsNone(strip_before(((3, 5),), (6,)))
        self.assertEqual(count_before(((3, 6),), (6,)), 1)
        self.assertEqual(strip_before(((3, 6),), (6,)), ((3, 3),))
        self.assertEqual(strip_before(((2, 1), (3, 6), (4, 1)), (6,)), ((3, 3), (4, 1)))
        self.assertEqual(stuck_fold(((3, 6),), (6, 6)), 0)
        self.assertEqual(stuck_fold(((3, 8),), (6, 6, 6)), None)
        self.assertEqual(stuck_fold(((3, 8),), (6,) * 4), 0)
        self.assertEqual(stuck_fold(((3, 4),), (6,) * 5), 2)

    def test_equal_creases(self):
        strip = ((-1, 4), (2, 4))
        for many, stuck in ((1, None), (2, None), (3, None), (4, 1), (5, 2), (12, 9)):
            self.assertEqual(stuck_fold(strip, (1,) * many), stuck)
        self.assertEqual(count_before(strip, (1,)), 5)
        self.assertEqual(count_before(strip, (1, 1)), 3)
        self.assertEqual(count_before(strip, (1, 1, 1)), 2)
        self.assertEqual(count_before(strip, (1, 1, 1, 1)), 0)
        self.assertEqual(strip_before(strip, (1, 1)), ((2, 2),))

    def test_twelve_folds(self):
        rng = made(54)
        for _ in range(60):
            row = tuple(rng.choice((0, 0, 1, 2, 3, 7)) for _ in range(12))
            before = tuple(sorted((x, rng.randint(1, 9)) for x in rng.sample(range(-5, 5), rng.randint(1, 3))))
            strip = folded_by(before, row)
            if len(strip) <= 200:
                self.assertIsNone(stuck_fold(strip, row))
                right = strip_before(strip, row)
                self.assertTrue(all(2 * x >= row[0] for x, _ in right))
                self.assertEqual(folded_by(right, row), strip)
                self.assertEqual(folded_by(right, row[:1]), folded_by(before, row[:1]))
                many = 1
                for x, drops in folded_by(before, row[:1]):
                    many *= drops + 1 if 2 * x > row[0] else 1
                self.assertEqual(count_before(strip, row), many)

    def test_two_hundred_pairs_with_many_drops(self):
        strip = tuple((x, HUGE) for x in range(200))
        self.assertIsNone(stuck_fold(strip, (199,)))
        self.assertEqual(count_before(strip, (199,)), (HUGE + 1) ** 100)
        self.assertEqual(strip_before(strip, (199,)), tuple((x, HUGE) for x in range(100, 200)))
        self.assertEqual(stuck_fold(strip, (198,)), 0)
        self.assertEqual(stuck_fold(strip, (99, 199)), None)
        self.assertEqual(strip_before(strip, (99, 199)), tuple((x, HUGE) for x in range(50, 100)))
        self.assertEqual(stuck_fold(strip, (0, 199)), 1)

    def test_places_and_creases_at_their_limits(self):
        top = 10 ** 6
        for h in (top, -top):
            before = ((h // 2, 3), (FAR + h - 7, 2)) if h < 0 else ((h // 2, 3), (FAR, 2))
            strip = folded_by(before, (h,))
            if max(abs(x) for x, _ in strip) <= FAR:
                self.assertEqual(strip_before(strip, (h,)), before)
                self.assertEqual(count_before(strip, (h,)), 3)
        strip = folded_by(((5, 1), (8, 1)), (-top, top, -top))
        self.assertIsNone(stuck_fold(strip, (-top, top, -top)))
        self.assertEqual(strip_before(strip, (-top, top, -top)), ((5, 1), (8, 1)))
        self.assertEqual(stuck_fold(strip, (top, -top, -top)), 2)
        self.assertEqual(stuck_fold(((-FAR, 1), (FAR, 1)), (0,)), None)
        self.assertEqual(strip_before(((-FAR, 1), (FAR, 1)), (0,)), ((FAR, 1),))
        self.assertEqual(stuck_fold(((-FAR, 1), (FAR, 1)), (top, 0)), 1)


if __name__ == "__main__":
    unittest.main()
