"""wetfolds.rownumbers: how many rows there are, and their indices, against the list of all of them."""

import unittest
from itertools import product

from tests.support import made
from wetfolds.errors import InvalidNumber
from wetfolds.rownumbers import count_folds, folds_at, folds_number

TOP = 10 ** 6


class RowNumbers(unittest.TestCase):
    def test_against_all_rows(self):
        for many, most in ((0, 0), (0, 7), (1, 0), (1, 5), (2, 0), (2, 4), (3, 0), (3, 1), (3, 3), (4, 2), (12, 0)):
            rows = sorted(product(range(-most, most + 1), repeat=many))
            self.assertEqual(count_folds(many, most), len(rows))
            self.assertEqual([folds_at(many, most, number) for number in range(len(rows))], rows)
            self.assertEqual([folds_number(row, most) for row in rows], list(range(len(rows))))
            for wrong in (-1, len(rows), len(rows) + 1):
                with self.assertRaises(InvalidNumber):
                    folds_at(many, most, wrong)

    def test_greater_creases(self):
        self.assertIsNone(folds_number((3, 0), 2))
        self.assertIsNone(folds_number((0, -3), 2))
        self.assertIsNone(folds_number((TOP,), TOP - 1))
        self.assertIsNone(folds_number((1,), 0))
        self.assertEqual(folds_number((2, -2), 2), 20)
        self.assertEqual(folds_number((), 0), 0)
        self.assertEqual(folds_number((), TOP), 0)

    def test_numbers_below_their_limits(self):
        for many, most, number in ((-1, 1, 0), (2, -1, 0), (13, 0, 0), (0, TOP + 1, 0), (-1, -1, 0), (0, 0, 1)):
            with self.assertRaises(InvalidNumber):
                folds_at(many, most, number)

    def test_limits(self):
        size = 2 * TOP + 1
        self.assertEqual(count_folds(12, TOP), size ** 12)
        self.assertEqual(count_folds(0, TOP), 1)
        self.assertEqual(folds_at(12, TOP, 0), (-TOP,) * 12)
        self.assertEqual(folds_at(12, TOP, size ** 12 - 1), (TOP,) * 12)
        self.assertEqual(folds_number((TOP,) * 12, TOP), size ** 12 - 1)
        self.assertEqual(folds_number((0,) * 12, TOP), size ** 12 // 2)
        with self.assertRaises(InvalidNumber):
            folds_at(12, TOP, size ** 12)
        rng = made(13)
        for _ in range(100):
            many, most = rng.randint(0, 12), rng.randint(0, TOP)
            number = rng.randrange(count_folds(many, most))
            row = folds_at(many, most, number)
            self.assertEqual(len(row), many)
            self.assertLessEqual(max([abs(h) for h in row] + [0]), most)
            self.assertEqual(folds_number(row, most), number)


if __name__ == "__main__":
    unittest.main()
