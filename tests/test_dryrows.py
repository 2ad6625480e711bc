"""wetfolds.dryrows: middles and shifts, and rows told by their dry prints."""

import unittest
from collections import Counter
from itertools import permutations, product
from math import factorial

from tests.support import FAR, HUGE, drops_of, made, made_folds, plain_dry, strip_of
from wetfolds.dryrows import count_dry, middles_and_shifts, row_of_lots, row_told
from wetfolds.errors import InvalidLots, InvalidPrints

TOP = 10 ** 6
FAR_DROP = 10 ** 8
SMALL = [row for many in range(5) for row in product(range(-1, 2), repeat=many)]


def plain_lots(row):
    """The middles and shifts, by what a drop prints at the time 1."""
    come = [drops_of(plain_dry(FAR_DROP, row[:many], 1)) for many in range(len(row) + 1)]
    middles, shifts = [], []
    for at, (before, behind) in enumerate(zip(come, come[1:])):
        place = list((Counter(behind) - Counter(before)).elements())[0]
        (shifts if at % 2 else middles).append(place + FAR_DROP if at % 2 == 0 else place - FAR_DROP)
    return tuple(sorted(middles)), tuple(sorted(shifts))


def plain_prints(row):
    """The dry prints of a drop at the far place, at all times up to how many folds there are."""
    return tuple(plain_dry(FAR_DROP, row, time) for time in range(len(row) + 1))


class MiddlesAndShifts(unittest.TestCase):
    def test_by_what_is_printed(self):
        rng = made(201)
        for row in SMALL + [made_folds(rng, 12, rng.choice((5, TOP))) for _ in range(100)]:
            self.assertEqual(middles_and_shifts(row), plain_lots(row), row)

    def test_edges(self):
        self.assertEqual(middles_and_shifts(()), ((), ()))
        self.assertEqual(middles_and_shifts((7,)), ((7,), ()))
        self.assertEqual(middles_and_shifts((7, 3)), ((7,), (-4,)))
        self.assertEqual(middles_and_shifts((5,) * 12), ((5,) * 6, (0,) * 6))
        told = middles_and_shifts((TOP, -TOP) * 6)
        self.assertEqual(told, (tuple(TOP * (2 * k + 1) for k in range(6)),
                                tuple(-2 * TOP * (k + 1) for k in range(6))[::-1]))

    def test_counts_by_all_orders(self):
        rng = made(202)
        for row in SMALL + [made_folds(rng, 8, 2) for _ in range(30)]:
            middles, shifts = plain_lots(row)
            orders = len(set(permutations(middles))) * len(set(permutations(shifts)))
            self.assertEqual(count_dry(row), orders)

    def test_counts_by_making_all_rows(self):
        # The ways of rows with creases -1, 0 and 1 are from -3 to 3 for three folds, so all of them are made here.
        counts = Counter(plain_lots(row) for row in product(range(-6, 7), repeat=3))
        for row in product(range(-1, 2), repeat=3):
            self.assertEqual(count_dry(row), counts[middles_and_shifts(row)])

    def test_counts_of_twelve_folds(self):
        self.assertEqual(count_dry((5,) * 12), 1)
        self.assertEqual(count_dry(()), 1)
        self.assertEqual(count_dry((TOP, -TOP) * 6), factorial(6) ** 2)


class RowsOfLots(unittest.TestCase):
    def test_in_turn(self):
        rng = made(203)
        for _ in range(200):
            shifts = sorted(rng.randint(-5, 5) for _ in range(rng.randint(0, 6)))
            middles = sorted(rng.randint(-5, 5) for _ in range(len(shifts) + (len(shifts) < 6) * rng.randint(0, 1)))
            row = row_of_lots(tuple(middles), tuple(shifts))
            self.assertEqual(len(row), len(middles) + len(shifts))
            self.assertEqual(plain_lots(row), (tuple(middles), tuple(shifts)))
            for many in range(len(row) + 1):
                here = plain_lots(row[:many])
                self.assertEqual(here, (tuple(middles[:(many + 1) // 2]), tuple(shifts[:many // 2])))

    def test_limits(self):
        far = 10 ** 5
        self.assertEqual(row_of_lots((), ()), ())
        self.assertEqual(row_of_lots((far,), ()), (far,))
        self.assertEqual(row_of_lots((-far,), (-far,)), (-far, -2 * far))
        self.assertEqual(row_of_lots((far,) * 6, (far,) * 6), (far,) + (2 * far,) * 11)
        self.assertEqual(row_of_lots((-far, far), (0,)), (-far, -far, far))
        self.assertEqual(len(row_of_lots((0,) * 6, (0,) * 5)), 11)

    def test_wrong_lots(self):
        for middles, shifts in (
            ((0,) * 7, (0,) * 6), ((0,) * 7, (0,) * 7), ((), (0,)), ((0, 0), ()), ((0,), (0, 0)), ((0, 0, 0), (0,)),
            ((1, 0), (0,)), ((0, 0), (1, 0)), ([], ()), ((), []), ((10 ** 5 + 1,), ()), ((0,), (-10 ** 5 - 1,)),
            ((True,), ()), ((0,), (False,)), (None, None), ((0,), None), ((0,) * 1000, (0,) * 1000), ((0,), "0"),
        ):
            with self.assertRaises(InvalidLots):
                row_of_lots(middles, shifts)


class RowsTold(unittest.TestCase):
    def test_all_small_rows(self):
        for row in SMALL:
            self.assertEqual(row_told(plain_prints(row)), row)

    def test_made_rows(self):
        rng = made(204)
        for _ in range(60):
            row = made_folds(rng, 7, rng.choice((1, 3, 50, TOP)), 4)
            self.assertEqual(row_told(plain_prints(row)), row)
        self.assertEqual(row_told(plain_prints((TOP, -TOP) * 3 + (TOP,))), (TOP, -TOP) * 3 + (TOP,))
        self.assertEqual(row_told(plain_prints((3,) * 7)), (3,) * 7)

    def test_no_folds(self):
        self.assertEqual(row_told((((FAR_DROP, 1),),)), ())
        for strip in ((), ((FAR_DROP, 2),), ((0, 1),), ((-FAR_DROP, 1),), ((0, 1), (FAR_DROP, 1))):
            self.assertIsNone(row_told((strip,)))
            self.assertIsNone(row_told((strip,) + plain_prints((5, 0))[1:]))

    def test_prints_of_other_rows_or_times(self):
        rng = made(205)
        for _ in range(100):
            row, other = made_folds(rng, 6, 3, 2), made_folds(rng, 6, 3, 2)
            prints = plain_prints(row)
            self.assertIsNone(row_told(prints[:-1]))
            self.assertIsNone(row_told(prints + prints[-1:]))
            at = rng.randrange(1, len(prints))
            for wrong in (plain_dry(FAR_DROP, other, at), plain_dry(FAR_DROP, row, at - 1), (), ((5, 1),),
                          prints[at] + ((FAR, 1),), prints[at][:-1], ((-FAR, HUGE),) + prints[at]):
                told = prints[:at] + (wrong,) + prints[at + 1:]
                self.assertEqual(row_told(told), row if told == prints else None)

    def test_prints_of_two_rows_with_the_same_middles_and_shifts(self):
        row, other = (0, 1, 3), (2, 3, 1)
        self.assertEqual(plain_prints(row)[:2], plain_prints(other)[:2])
        self.assertNotEqual(plain_prints(row)[2:], plain_prints(other)[2:])
        self.assertEqual(row_told(plain_prints(row)), row)
        self.assertEqual(row_told(plain_prints(other)), other)
        self.assertIsNone(row_told(plain_prints(row)[:3] + plain_prints(other)[3:]))
        self.assertIsNone(row_told(plain_prints(row)[:2] + plain_prints(other)[2:3] + plain_prints(row)[3:]))

    def test_creases_that_are_too_great(self):
        for row in ((TOP + 1,), (0, -TOP - 1), (0, TOP + 1, 3), (5 * TOP, 0)):
            self.assertIsNone(row_told(plain_prints(row)))
        self.assertEqual(row_told(plain_prints((0, -TOP))), (0, -TOP))
        # Rows with creases of any size whose prints of the drop at the far place alone would do.
        self.assertIsNone(row_told((((FAR_DROP, 1),), ((FAR_DROP, 2),))))
        self.assertIsNone(row_told((((FAR_DROP, 1),), ((0, 1), (FAR_DROP, 1)))))
        self.assertIsNone(row_told((((FAR_DROP, 1),), ((-FAR, 1), (FAR_DROP, 1)))))

    def test_drops_at_the_time_1_that_no_row_prints(self):
        first = ((FAR_DROP, 1),)
        for drops in ([FAR_DROP] * 3, [-FAR_DROP] * 3, [FAR_DROP, -FAR_DROP, -FAR_DROP], [-FAR_DROP, FAR_DROP + 1] * 2,
                      [-FAR_DROP, FAR_DROP + 1, FAR_DROP + 2], [0, 1, 2], [FAR_DROP, 5, 6]):
            strip = strip_of(drops)
            self.assertIsNone(row_told((first,) + (strip,) * (len(drops) - 1)))

    def test_how_many_prints(self):
        eight = plain_prints((1, 2, 3, 4, 5, 6, 7))
        self.assertEqual(row_told(eight), (1, 2, 3, 4, 5, 6, 7))
        for wrong in ((), eight + eight[-1:], list(eight), None, (None,), eight[:3] + ([],)):
            with self.assertRaises(InvalidPrints):
                row_told(wrong)


if __name__ == "__main__":
    unittest.main()
