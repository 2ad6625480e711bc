"""wetfolds.sheets: sheets folded, against folding drop by drop."""

import unittest

from tests.support import (
    FAR, HUGE, drops_of, long_sheet, made, made_sheet_row, plain_lay, plain_sheet_print, strip_of,
)
from tests.test_folding import DOUBLING
from wetfolds.errors import TooMany
from wetfolds.sheets import is_sheet, is_sheet_row, sheet_folded, sheet_print

WAYS = ("x", "y", "less", "sum")
TOP = 10 ** 6


def plainly_folded_sheet(sheet, row):
    spots = drops_of(sheet)
    for crease in row:
        spots = spots + [plain_lay(spot, crease) for spot in spots]
    return strip_of(spots)


def made_sheet(rng, pairs=5, far=6):
    return strip_of([(rng.randint(-far, far), rng.randint(-far, far)) for _ in range(rng.randint(0, pairs))])


class Sheets(unittest.TestCase):
    def test_folded_drop_by_drop(self):
        rng = made(171)
        for _ in range(300):
            sheet, row = made_sheet(rng), made_sheet_row(rng)
            self.assertEqual(sheet_folded(sheet, row), plainly_folded_sheet(sheet, row))

    def test_prints(self):
        rng = made(172)
        for _ in range(300):
            spot, row = (rng.randint(-9, 9), rng.randint(-9, 9)), made_sheet_row(rng, 7)
            told = sheet_print(spot, row)
            self.assertEqual(told, plain_sheet_print(spot, row))
            self.assertEqual(told, sheet_folded(((spot, 1),), row))
            self.assertEqual(sum(drops for _, drops in told), 2 ** len(row))

    def test_each_way(self):
        self.assertEqual(sheet_print((1, 2), (("x", 10),)), (((1, 2), 1), ((9, 2), 1)))
        self.assertEqual(sheet_print((1, 2), (("y", 10),)), (((1, 2), 1), ((1, 8), 1)))
        self.assertEqual(sheet_print((1, 2), (("less", 10),)), (((1, 2), 1), ((12, -9), 1)))
        self.assertEqual(sheet_print((1, 2), (("sum", 10),)), (((1, 2), 1), ((8, 9), 1)))
        self.assertEqual(sheet_print((5, 2), (("x", 10),)), (((5, 2), 2),))
        self.assertEqual(sheet_print((2, 5), (("y", 10),)), (((2, 5), 2),))
        self.assertEqual(sheet_print((12, 2), (("less", 10),)), (((12, 2), 2),))
        self.assertEqual(sheet_print((3, 7), (("sum", 10),)), (((3, 7), 2),))

    def test_creases_lay_spots_on_each_other(self):
        rng = made(173)
        for _ in range(100):
            spot = (rng.randint(-9, 9), rng.randint(-9, 9))
            crease = (rng.choice(WAYS), rng.randint(-9, 9))
            other = plain_lay(spot, crease)
            self.assertEqual(sheet_print(other, (crease,)), sheet_print(spot, (crease,)))

    def test_limits_of_spots_and_creases(self):
        self.assertEqual(sheet_print((FAR, -FAR), (("x", -TOP),)), (((-TOP - FAR, -FAR), 1), ((FAR, -FAR), 1)))
        self.assertEqual(sheet_print((FAR, -FAR), (("sum", TOP),)), (((TOP + FAR, TOP - FAR), 1), ((FAR, -FAR), 1))[::-1])
        self.assertEqual(sheet_print((-FAR, FAR), (("less", -TOP),)), (((-FAR, FAR), 1), ((FAR - TOP, TOP - FAR), 1)))
        sheet = (((-FAR, FAR), HUGE), ((0, 0), 1))
        self.assertEqual(sheet_folded(sheet, (("y", TOP), ("y", TOP))),
                         (((-FAR, TOP - FAR), 2 * HUGE), ((-FAR, FAR), 2 * HUGE), ((0, 0), 2), ((0, TOP), 2)))
        row = tuple((WAYS[k % 4], (TOP - k) * (-1) ** k) for k in range(10))
        self.assertEqual(sheet_print((3, -FAR), row), plain_sheet_print((3, -FAR), row))

    def test_empty_ones(self):
        self.assertEqual(sheet_folded((), (("x", 1), ("sum", 2))), ())
        self.assertEqual(sheet_folded((), ()), ())
        self.assertEqual(sheet_folded((((1, 2), 3),), ()), (((1, 2), 3),))
        self.assertEqual(sheet_print((1, 2), ()), (((1, 2), 1),))

    def test_equal_creases(self):
        for way in WAYS:
            once = sheet_print((3, 1), ((way, 1),))
            for many in (2, 5, 10):
                self.assertEqual(sheet_print((3, 1), ((way, 1),) * many),
                                 tuple((spot, 2 ** (many - 1) * drops) for spot, drops in once))

    def test_too_many_pairs(self):
        sheet = long_sheet(200)
        row = tuple(("x", h) for h in DOUBLING)
        exact = sheet_folded(sheet, row + (("x", 9999),))
        self.assertEqual([spot for spot, _ in exact], [(x, 0) for x in range(10000)])
        self.assertEqual(len(sheet_folded(sheet, row + (("x", 9999),) * 5)), 10000)
        for more in ((("x", 10000),), (("y", 1),), (("x", 9999), ("less", 0)), (("x", 10000), ("x", 10000))):
            with self.assertRaises(TooMany) as caught:
                sheet_folded(sheet, row + more)
            self.assertEqual(caught.exception.limit, 10000)

    def test_ten_creases_of_one_drop_are_never_too_many(self):
        row = tuple((WAYS[k % 4], 4 ** k) for k in range(10))
        self.assertEqual(sheet_print((7, FAR), row), plain_sheet_print((7, FAR), row))
        self.assertEqual(len(sheet_print((7, FAR), row)), 1024)

    def test_what_is_a_sheet(self):
        for value, right in (
            ((), True), ((((0, 0), 1),), True), ((((0, 0), 0),), False), ((((0, FAR), 1),), True),
            ((((0, FAR + 1), 1),), False), ((((0, 1), 1), ((0, 0), 1)), False), (long_sheet(200), True),
            (long_sheet(201), False), ([], False), ((((0, True), 1),), False),
        ):
            self.assertIs(is_sheet(value), right)

    def test_what_is_a_sheet_row(self):
        for value, right in (
            ((), True), ((("x", 0),) * 10, True), ((("x", 0),) * 11, False), ((("less", TOP),), True),
            ((("less", TOP + 1),), False), ((("diag", 0),), False), ((("sum", -TOP),), True),
            ((("sum", -TOP - 1),), False), ([("x", 0)], False), ((["x", 0],), False),
        ):
            self.assertIs(is_sheet_row(value), right)


if __name__ == "__main__":
    unittest.main()
