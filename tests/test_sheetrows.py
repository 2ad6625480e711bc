"""wetfolds.sheetrows: which creases can be exchanged and which rows do the same, against what they print."""

import unittest
from collections import Counter
from itertools import combinations_with_replacement, product
from math import comb, factorial

from tests.support import made, made_sheet_row, plain_sheet_print
from wetfolds.errors import InvalidNumber, InvalidSheetRow
from wetfolds.sheetrows import can_exchange, count_straight, same_on_sheets, sheet_parting, straight_form
from wetfolds.sheets import is_sheet, sheet_folded

FAR_SPOT = (10 ** 9, 3 * 10 ** 8)
NEAR = [(0, 0), (1, 0), (0, 1), (2, 5), (-3, 1)]
WAYS = ("x", "y", "less", "sum")
CREASES = [(way, h) for way in WAYS for h in (-1, 0, 2)]
TOP = 10 ** 6


def plain_prints(row):
    """What tells rows apart: the prints of the far spot and of near ones, drop by drop."""
    return tuple(plain_sheet_print(spot, row) for spot in [FAR_SPOT] + NEAR)


def plain_part(numbers):
    """What a straight form tells of the integers of one way, and how many steps 0 there are."""
    steps = sorted(abs(a - b) for a, b in zip(numbers, numbers[1:]))
    if not numbers:
        return None, 0
    return (numbers[0], numbers[-1], tuple(step for step in steps if step)), steps.count(0)


def plain_form(row):
    along, halts = plain_part([h for way, h in row if way == "x"])
    across, more = plain_part([h for way, h in row if way == "y"])
    return (along, across, halts + more)


def straight_rows(many, numbers):
    """All straight rows of so many creases with some integers."""
    return list(product([(way, h) for way in "xy" for h in numbers], repeat=many))


class Exchanging(unittest.TestCase):
    def test_two_creases_by_what_they_print(self):
        for one in CREASES:
            for two in CREASES:
                row = (one, ("less", 7), two)
                same = plain_prints((one, two)) == plain_prints((two, one))
                self.assertIs(can_exchange(row, 0, 2), same, (one, two))
                self.assertIs(can_exchange(row, 2, 0), same)
                right = {one[0], two[0]} in ({"x", "y"}, {"less", "sum"})
                self.assertEqual(same, right or one == two)

    def test_equal_indices(self):
        for row in product(CREASES[::2], repeat=2):
            for at in range(2):
                self.assertIs(can_exchange(row, at, at), True)

    def test_indices(self):
        row = (("x", 1), ("y", 5), ("x", 2))
        self.assertIs(can_exchange(row, 0, 1), True)
        self.assertIs(can_exchange(row, 0, 2), False)
        self.assertIs(can_exchange(row, 1, 2), True)
        for wrong in (-1, 3, None, True, False, "0", (0,), 10 ** 9):
            for one, two in ((wrong, 0), (0, wrong), (wrong, wrong)):
                with self.assertRaises(InvalidNumber):
                    can_exchange(row, one, two)
        for index in (0, -1, 1, None):
            with self.assertRaises(InvalidNumber):
                can_exchange((), index, 0)
        with self.assertRaises(InvalidSheetRow):
            can_exchange((("z", 1),), 5, 5)
        far = (("less", TOP), ("sum", -TOP)) * 5
        self.assertIs(can_exchange(far, 0, 9), True)
        self.assertIs(can_exchange(far, 0, 8), True)
        self.assertIs(can_exchange((("less", TOP), ("less", -TOP)), 0, 1), False)


class SameOnSheets(unittest.TestCase):
    def check(self, row, other, same):
        self.assertIs(same_on_sheets(row, other), same, (row, other))
        spot = sheet_parting(row, other)
        self.assertEqual(spot is None, same)
        if spot is not None:
            self.assertIs(is_sheet(((spot, 1),)), True)
            self.assertNotEqual(plain_sheet_print(spot, row), plain_sheet_print(spot, other))
            self.assertNotEqual(sheet_folded(((spot, 1),), row), sheet_folded(((spot, 1),), other))

    def test_all_rows_of_a_few_creases(self):
        rows = [row for many in range(3) for row in product(CREASES[::2] + CREASES[1::6], repeat=many)]
        prints = {row: plain_prints(row) for row in rows}
        found = 0
        for row, other in combinations_with_replacement(rows, 2):
            same = prints[row] == prints[other]
            found += same and row != other
            self.check(row, other, same)
        self.assertGreater(found, 5)

    def test_shuffled_rows(self):
        rng = made(181)
        same = 0
        for _ in range(150):
            row = made_sheet_row(rng, 6, 3)
            other = list(row)
            for _ in range(3):
                if len(other) > 1:
                    at = rng.randrange(len(other) - 1)
                    other[at], other[at + 1] = other[at + 1], other[at]
            other = tuple(other)
            alike = plain_prints(row) == plain_prints(other)
            same += alike and row != other
            self.check(row, other, alike)
        self.assertGreater(same, 15)

    def test_exchanged_neighbours_that_can_be_change_nothing(self):
        rng = made(182)
        done = 0
        for _ in range(200):
            row = made_sheet_row(rng, 6, 5)
            for at in range(len(row) - 1):
                other = row[:at] + (row[at + 1], row[at]) + row[at + 2:]
                if can_exchange(row, at, at + 1):
                    done += row != other
                    self.check(row, other, True)
        self.assertGreater(done, 50)

    def test_no_creases_and_ten(self):
        self.check((), (), True)
        for crease in CREASES:
            self.check((), (crease,), False)
            self.check((crease,), (crease, crease), False)
        ten = tuple((WAYS[k % 4], TOP - k) for k in range(10))
        self.check(ten, ten, True)
        self.check(ten, ten[:9] + (("y", TOP - 8),), False)
        # The first "x" and "y" stand at right angles.
        self.check(ten, (ten[1], ten[0]) + ten[2:], True)
        self.check((("x", TOP), ("x", -TOP)), (("x", -TOP), ("x", TOP)), False)

    def test_aslant_rows_as_straight_ones(self):
        # The rows of strips that are alike are so along, across and aslant.
        for way in WAYS:
            self.check(((way, 0), (way, 2), (way, 6)), ((way, 0), (way, 4), (way, 6)), True)
            self.check(((way, 0), (way, 2), (way, 6)), ((way, 0), (way, 3), (way, 6)), False)
        self.check((("less", 0), ("less", 0), ("sum", 1)), (("less", 0), ("sum", 1), ("sum", 1)), True)
        self.check((("x", 0), ("x", 0), ("sum", 1)), (("x", 0), ("sum", 1), ("sum", 1)), True)
        # By these a drop comes once to each of eight spots, in either order.
        self.check((("x", 0), ("y", 0), ("less", 0)), (("less", 0), ("x", 0), ("y", 0)), True)
        self.check((("x", 1), ("y", 0), ("less", 0)), (("less", 0), ("x", 1), ("y", 0)), False)


class StraightForms(unittest.TestCase):
    def test_forms_and_what_rows_do(self):
        rows = [row for many in range(4) for row in straight_rows(many, (0, 1, 3))]
        prints = {row: plain_prints(row) for row in rows}
        alike = {}
        for row in rows:
            form = straight_form(row)
            self.assertEqual(form, plain_form(row))
            alike.setdefault(form, set()).add(prints[row])
        self.assertTrue(all(len(some) == 1 for some in alike.values()))
        self.assertEqual(len(alike), len(set(prints.values())))

    def test_same_on_sheets_by_forms(self):
        rng = made(183)
        same = 0
        for _ in range(300):
            row = made_sheet_row(rng, 7, 2, "xy")
            other = list(row)
            rng.shuffle(other)
            other = tuple(other)
            alike = straight_form(row) == straight_form(other)
            same += alike and row != other
            self.assertIs(same_on_sheets(row, other), alike)
        self.assertGreater(same, 30)

    def test_counts_by_making_all_rows(self):
        # With integers from 0 to 2, and at most four creases, none between comes below -2, or above 4.
        for many in range(5):
            counts = Counter(plain_form(row) for row in straight_rows(many, range(-2, 5)))
            for row in straight_rows(many, range(3)):
                self.assertEqual(count_straight(row), counts[straight_form(row)], row)

    def test_counts_of_long_rows(self):
        # Of 10 creases x or y that are all one, each shuffle with both ways does.
        self.assertEqual(count_straight((("x", 5), ("y", -5)) * 5), 2 ** 10 - 2)
        self.assertEqual(count_straight((("x", 5),) * 10), 1)
        # The steps 1, 2, 4 .. 256 come to their sum with these signs alone, but in each order.
        row = tuple(("y", 2 ** k) for k in range(10))
        self.assertEqual(count_straight(row), factorial(9))
        self.assertEqual(count_straight(row[:9] + (("x", 0),)), factorial(8) * 10)
        self.assertEqual(count_straight(row[:5] + tuple(("x", h) for _, h in row[:5])), 24 * 24 * comb(10, 5))

    def test_no_creases(self):
        self.assertEqual(straight_form(()), (None, None, 0))
        self.assertEqual(count_straight(()), 1)

    def test_far_creases(self):
        row = (("x", -TOP), ("y", TOP), ("x", TOP), ("x", TOP))
        self.assertEqual(straight_form(row), ((-TOP, TOP, (2 * TOP,)), (TOP, TOP, ()), 1))
        # Two x and one step 0 among them, or two y: 2 * 4 and 6 shuffles.
        self.assertEqual(count_straight(row), 2 * 4 + 6)

    def test_rows_that_are_not_straight(self):
        for row in ((("less", 0),), (("x", 0), ("sum", 0)), (("less", 0), ("y", 0)), (("x", 0),) * 9 + (("sum", 1),)):
            for function in (straight_form, count_straight):
                with self.assertRaises(InvalidSheetRow):
                    function(row)


if __name__ == "__main__":
    unittest.main()
