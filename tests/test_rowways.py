"""wetfolds.rowways: rows moved and mirrored, plain rows, ways from one row to another one."""

import unittest
from itertools import product

from tests.support import FAR, made, made_folds
from wetfolds.errors import TooMany
from wetfolds.rowways import folds_between, mirrored_folds, plain_folds, shifted_folds

TOP = 10 ** 6


def shifted(row, by):
    return tuple(g + 2 * by for g in row)


def mirrored(row, h):
    return tuple(2 * h - g for g in row)


def plainly(row):
    found = [shifted(row, by) for by in range(-30, 31)] + [mirrored(row, h) for h in range(-30, 31)]
    return min(other for other in found if other == () or other[0] in (0, 1))


def plain_way(row, other):
    for by in range(-60, 61):
        if shifted(row, by) == other and (row != () or by == 0):
            return ("moved", by)
    for h in range(-60, 61):
        if mirrored(row, h) == other:
            return ("mirrored", h)
    return None


class RowWays(unittest.TestCase):
    def test_shifted_and_mirrored(self):
        self.assertEqual(shifted_folds((), 5), ())
        self.assertEqual(shifted_folds((1, 2, 2), -3), (-5, -4, -4))
        self.assertEqual(shifted_folds((0,) * 12, 1), (2,) * 12)
        self.assertEqual(mirrored_folds((), 5), ())
        self.assertEqual(mirrored_folds((1, 2, 2), -3), (-7, -8, -8))
        self.assertEqual(mirrored_folds((4,), 4), (4,))

    def test_limit(self):
        self.assertEqual(shifted_folds((0,), TOP // 2), (TOP,))
        self.assertEqual(shifted_folds((0,), -TOP // 2), (-TOP,))
        self.assertEqual(shifted_folds((-TOP,), TOP), (TOP,))
        self.assertEqual(mirrored_folds((TOP,), TOP), (TOP,))
        self.assertEqual(mirrored_folds((TOP,), 0), (-TOP,))
        self.assertEqual(mirrored_folds((-TOP,), -TOP), (-TOP,))
        self.assertEqual(mirrored_folds((0,), -TOP // 2), (-TOP,))
        for function, row, by in (
            (shifted_folds, (1,), TOP // 2), (shifted_folds, (-1,), -TOP // 2), (shifted_folds, (0, TOP - 1), 1),
            (shifted_folds, (1 - TOP, 0), -1), (shifted_folds, (0,), FAR), (shifted_folds, (0,), -FAR),
            (mirrored_folds, (-1,), TOP // 2), (mirrored_folds, (1,), -TOP // 2), (mirrored_folds, (0, -TOP), 1),
            (mirrored_folds, (0,), TOP), (mirrored_folds, (0,), -TOP), (mirrored_folds, (TOP, 0), -1),
        ):
            with self.assertRaises(TooMany) as caught:
                function(row, by)
            self.assertEqual(caught.exception.limit, 1000000)

    def test_plain_folds(self):
        self.assertEqual(plain_folds(()), ())
        self.assertEqual(plain_folds((0,)), (0,))
        self.assertEqual(plain_folds((7,)), (1,))
        self.assertEqual(plain_folds((-7,)), (1,))
        self.assertEqual(plain_folds((-8, -9)), (0, -1))
        self.assertEqual(plain_folds((-8, -7)), (0, -1))
        self.assertEqual(plain_folds((TOP, -TOP)), (0, -2 * TOP))
        self.assertEqual(plain_folds((-TOP, TOP)), (0, -2 * TOP))
        self.assertEqual(plain_folds((3,) * 12), (1,) * 12)

    def test_folds_between(self):
        self.assertEqual(folds_between((), ()), ("moved", 0))
        self.assertIsNone(folds_between((), (0,)))
        self.assertIsNone(folds_between((0,), ()))
        self.assertEqual(folds_between((0,), (6,)), ("moved", 3))
        self.assertIsNone(folds_between((0,), (5,)))
        self.assertEqual(folds_between((3, 3), (1, 1)), ("moved", -1))
        self.assertEqual(folds_between((-TOP,), (TOP,)), ("moved", TOP))
        self.assertEqual(folds_between((TOP, TOP - 2), (TOP - 2, TOP)), ("mirrored", TOP - 1))
        self.assertIsNone(folds_between((0, 1), (0, 1, 1)))

    def test_against_all_ways(self):
        for row in list(product(range(-3, 4), repeat=2)) + list(product(range(-1, 2), repeat=3)):
            self.assertEqual(plain_folds(row), plainly(row))
            for other in product(range(-2, 3), repeat=len(row)):
                self.assertEqual(folds_between(row, other), plain_way(row, other))

    def test_made_rows(self):
        rng = made(9)
        for _ in range(200):
            row, by = made_folds(rng, 12), rng.randint(-9, 9)
            self.assertEqual(shifted_folds(row, by), shifted(row, by))
            self.assertEqual(mirrored_folds(row, by), mirrored(row, by))
            self.assertEqual(plain_folds(row), plainly(row))
            for other in (shifted(row, by), mirrored(row, by), made_folds(rng, 2)):
                self.assertEqual(folds_between(row, other), plain_way(row, other))
                self.assertEqual(plain_folds(row) == plain_folds(other), plain_way(row, other) is not None)


if __name__ == "__main__":
    unittest.main()
