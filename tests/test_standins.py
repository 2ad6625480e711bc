"""wetfolds.standins: rows in the place of stretches of other rows, against going through all stretches."""

import unittest
from itertools import product

from tests.support import made, made_folds, near_first, plain_print
from wetfolds.errors import TooMany
from wetfolds.standins import places_for, with_row

SMALL_ROWS = [row for many in range(4) for row in product(range(-1, 2), repeat=many)]


def plain_prints(row):
    return [plain_print(place, row) for place in near_first(3)]


def plain_places(row, other):
    """All stretches, by folding what comes."""
    found = []
    for begin in range(len(row) + 1):
        for end in range(begin, len(row) + 1):
            came = row[:begin] + other + row[end:]
            if len(came) <= 12 and plain_prints(came) == plain_prints(row):
                found.append((begin, end))
    return found


class StandIns(unittest.TestCase):
    def test_with_row(self):
        rng = made(21)
        for _ in range(200):
            row, other = made_folds(rng, 6), made_folds(rng, 6)
            for begin in range(len(row) + 1):
                for end in range(begin, len(row) + 1):
                    expected = tuple(list(row)[:begin] + list(other) + list(row)[end:])
                    self.assertEqual(with_row(row, begin, end, other), expected)

    def test_no_folds(self):
        self.assertEqual(with_row((), 0, 0, ()), ())
        self.assertEqual(with_row((1, 2), 0, 2, ()), ())
        self.assertEqual(with_row((1, 2), 1, 1, ()), (1, 2))
        self.assertEqual(places_for((), ()), [(0, 0)])
        self.assertEqual(places_for((), (0,)), [])
        self.assertEqual(places_for((0,), (1,)), [])
        self.assertEqual(places_for((3, 3), ()), [(0, 0), (1, 1), (2, 2)])
        self.assertEqual(places_for((3, 3), (3,)), [(0, 1), (1, 2)])

    def test_twelve_folds(self):
        row = tuple(range(12))
        self.assertEqual(with_row(row, 3, 5, (7, 7)), (0, 1, 2, 7, 7) + tuple(range(5, 12)))
        self.assertEqual(len(with_row(row, 12, 12, ())), 12)
        self.assertEqual(with_row(row, 0, 12, row[::-1]), row[::-1])
        for begin, end, other in ((3, 5, (7, 7, 7)), (0, 0, (1,)), (12, 12, (1,)), (0, 11, row), (6, 6, row)):
            with self.assertRaises(TooMany) as caught:
                with_row(row, begin, end, other)
            self.assertEqual(caught.exception.limit, 12)
        self.assertEqual(len(with_row(row[:11], 4, 4, (1,))), 12)
        self.assertEqual(places_for(row, row), [(0, 12)])
        self.assertEqual(places_for(row, ()), [(at, at) for at in range(13)])
        self.assertEqual(places_for((4,) * 12, (4, 4)), [(at, at + 2) for at in range(11)])
        self.assertEqual(places_for((0, 1, 0, 9) * 3, (0, -1, 0)), [(0, 3), (4, 7), (8, 11)])
        self.assertEqual(places_for((0, 1, 0, 9) * 3, (0, -2, 0)), [])

    def test_against_all_stretches(self):
        for row in SMALL_ROWS:
            for other in SMALL_ROWS:
                self.assertEqual(places_for(row, other), plain_places(row, other))

    def test_made_rows(self):
        rng = made(22)
        for _ in range(40):
            row = made_folds(rng, 6, 3, 3)
            begin = rng.randint(0, len(row))
            end = rng.randint(begin, len(row))
            other = list(row[begin:end])
            rng.shuffle(other)
            for beside in (tuple(other), row[begin:end], made_folds(rng, 2, 3)):
                self.assertEqual(places_for(row, beside), plain_places(row, beside))


if __name__ == "__main__":
    unittest.main()
