"""wetfolds.alikerows: alike rows, parting places, doublings and exchanges, against folding drop by drop."""

import unittest
from itertools import product

from tests.support import made, made_folds, near_first, plain_print
from wetfolds.alikerows import doublings, exchange_places, parting_place, rows_alike

TOP = 10 ** 6
PLACES = near_first(6)
SMALL_ROWS = [row for many in range(4) for row in product(range(-2, 3), repeat=many)]


def plain_prints(row):
    return [plain_print(place, row) for place in PLACES]


def times(strip, factor):
    return tuple((place, drops * factor) for place, drops in strip)


def plain_doublings(prints, others):
    """How many times the first prints double the others, or None, by trying."""
    for j in range(4):
        if prints == [times(strip, 2 ** j) for strip in others]:
            return j
        if others == [times(strip, 2 ** j) for strip in prints]:
            return -j
    return None


class AlikeRows(unittest.TestCase):
    def check(self, row, other, prints, others):
        unlike = [place for place, one, two in zip(PLACES, prints, others) if one != two]
        self.assertEqual(rows_alike(row, other), unlike == [])
        self.assertEqual(parting_place(row, other), unlike[0] if unlike else None)
        self.assertEqual(doublings(row, other), plain_doublings(prints, others))

    def test_small_rows(self):
        prints = {row: plain_prints(row) for row in SMALL_ROWS}
        for row in SMALL_ROWS:
            for other in SMALL_ROWS:
                self.check(row, other, prints[row], prints[other])

    def test_made_rows(self):
        rng = made(17)
        for _ in range(150):
            row = made_folds(rng, 6, 9)
            other = list(row)
            rng.shuffle(other)
            for beside in (row, tuple(other), row[:1] + row, row + row[-1:], row[:1] * 2 + row, row[:-1]):
                self.check(row, beside, plain_prints(row), plain_prints(beside))

    def test_no_folds(self):
        self.assertIs(rows_alike((), ()), True)
        self.assertIs(rows_alike((), (0,)), False)
        self.assertIs(rows_alike((0,), ()), False)
        self.assertIsNone(parting_place((), ()))
        self.assertEqual(parting_place((0,), ()), 0)
        self.assertEqual(doublings((), ()), 0)
        self.assertIsNone(doublings((), (0,)))
        self.assertEqual(exchange_places(()), ())
        self.assertEqual(exchange_places((5,)), ())

    def test_parting_at_one(self):
        self.assertEqual(parting_place((2,), (-2,)), 0)
        self.assertEqual(parting_place((2,), (3,)), 0)
        self.assertEqual(parting_place((0, 2), (4, 2)), 0)
        self.assertEqual(parting_place((-2, 0), (2, 0)), 1)
        self.assertEqual(parting_place((-2, 0, 4), (2, 0, 4)), 1)
        self.assertEqual(parting_place((-2, 0, 5), (2, 0, 4)), 0)

    def test_doublings(self):
        self.assertEqual(doublings((0, 0, 2), (0, 2, 2)), 0)
        self.assertEqual(doublings((3,) * 12, (3,)), 11)
        self.assertEqual(doublings((3,), (3,) * 12), -11)
        self.assertIsNone(doublings((3, 3), (4,)))
        self.assertIsNone(doublings((0, 2, 0), (0,)))
        self.assertEqual(doublings((0, 4, 6, 6), (0, 2, 6)), 1)

    def test_exchange_places(self):
        rng = made(18)
        rows = [row for row in SMALL_ROWS] + [made_folds(rng, 6, 3, 4) for _ in range(80)]
        for row in rows:
            expected = []
            for at in range(len(row) - 1):
                other = list(row)
                other[at], other[at + 1] = other[at + 1], other[at]
                if plain_prints(tuple(other)) == plain_prints(row):
                    expected.append(at)
            self.assertEqual(exchange_places(row), tuple(expected))
        self.assertEqual(exchange_places((7,) * 12), tuple(range(11)))

    def test_twelve_folds_at_the_limit(self):
        row = (TOP, -TOP) * 6
        self.assertIs(rows_alike(row, row), True)
        self.assertIs(rows_alike(row, row[::-1]), False)
        self.assertEqual(parting_place(row, row[::-1]), 0)
        steps = (0, 1, 3, 7, 15, 31, 63, 127, 255, 511, 1023, 2047)
        turned = tuple(2047 - h for h in steps[::-1])
        self.assertIs(rows_alike(steps, turned), True)
        self.assertIsNone(parting_place(steps, turned))
        self.assertEqual(doublings(steps, turned), 0)
        self.assertIs(rows_alike(steps, turned[:-1] + (2048,)), False)


if __name__ == "__main__":
    unittest.main()
