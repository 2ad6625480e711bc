"""wetfolds.goodlengths: good and bad lengths, against the prints of all places with and without a right end."""

import unittest
from itertools import product

from tests.support import made, made_folds, plain_ended
from wetfolds.goodlengths import bad_lengths, good_from, is_good_length, out_and_back

SMALL = [row for many in range(4) for row in product(range(-1, 5), repeat=many)]


def plain_good(row, length):
    """Whether all places have as many drops with as without a right end, walk by walk."""
    for place in range(length):
        ended = plain_ended([place], row, length)
        without = [x for x in plain_ended([place], row, None) if x < length]
        if sorted(ended) != sorted(without):
            return False
    return True


class GoodLengths(unittest.TestCase):
    def check_walk(self, walk, row, length):
        self.assertIsInstance(walk, tuple)
        self.assertEqual(len(walk), len(row) + 1)
        for place in walk:
            self.assertIs(type(place), int)
            self.assertGreaterEqual(place, 0)
        for h, place, further in zip(row, walk, walk[1:]):
            self.assertIn(further, (place, h - place))
        self.assertLess(walk[0], length)
        self.assertLess(walk[-1], length)
        self.assertGreaterEqual(max(walk), length)

    def check(self, row, most):
        bad = [length for length in range(most + 1) if not plain_good(row, length)]
        self.assertEqual(bad_lengths(row), bad, row)
        self.assertEqual(good_from(row), max(bad) + 1 if bad else 0)
        for length in range(most + 1):
            self.assertIs(is_good_length(row, length), length not in bad)
            walk = out_and_back(row, length)
            self.assertEqual(walk is None, length not in bad)
            if walk is not None:
                self.check_walk(walk, row, length)
        return bad

    def test_all_small_rows(self):
        lengths = set()
        for row in SMALL:
            lengths.update(self.check(row, 6))
        self.assertEqual(lengths, {1, 2, 3, 4})

    def test_made_rows(self):
        rng = made(141)
        seen = 0
        for _ in range(25):
            seen += len(self.check(made_folds(rng, 6, 12), 20))
            self.check(tuple(rng.randint(8, 14) for _ in range(rng.randint(0, 7))), 20)
        self.assertGreater(seen, 20)

    def test_great_lengths(self):
        rng = made(142)
        self.assertEqual(self.check((60, 60), 64), list(range(1, 61)))
        self.assertEqual(good_from((60, 60)), 61)
        self.assertEqual(self.check((59, 60, 59), 64)[-1], 59)
        self.assertEqual(self.check((60, 1, 60), 64)[-1], 60)
        self.assertEqual(self.check((-60, 60), 64), [])
        for _ in range(3):
            self.check(made_folds(rng, 5, 60, 4), 64)
        # In eight folds, too: the walks are many, so only those that come are judged.
        for _ in range(20):
            row = tuple(rng.randint(-10, 60) for _ in range(8))
            bad = bad_lengths(row)
            self.assertEqual(bad, [length for length in range(65) if out_and_back(row, length) is not None])
            for length in bad:
                self.check_walk(out_and_back(row, length), row, length)

    def test_lengths_above_the_greatest_crease_are_good(self):
        rng = made(143)
        for _ in range(100):
            row = made_folds(rng, 8, 60)
            most = max((0,) + row)
            self.assertTrue(all(length <= most for length in bad_lengths(row)))
            self.assertLessEqual(good_from(row), most + 1)
            for length in range(most + 1, 65):
                self.assertIs(is_good_length(row, length), True)
        for h in range(1, 61):
            self.assertEqual(good_from((h, h)), h + 1)

    def test_no_folds_and_one_fold(self):
        self.assertEqual(self.check((), 64), [])
        for h in (-60, 0, 1, 60):
            self.assertEqual(self.check((h,), 64), [])

    def test_papers_without_places(self):
        for row in SMALL:
            self.assertIs(is_good_length(row, 0), True)
            self.assertIsNone(out_and_back(row, 0))

    def test_gaps_between_bad_lengths(self):
        rows = [row for row in product(range(0, 9, 2), repeat=4)]
        gaps = [row for row in rows if bad_lengths(row) and len(bad_lengths(row)) < good_from(row) - 1]
        self.assertGreater(len(gaps), 0)
        for row in gaps[:20]:
            self.check(row, 10)


if __name__ == "__main__":
    unittest.main()
