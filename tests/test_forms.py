"""wetfolds.forms and wetfolds.formrows: forms, their rows and the indices of these, against going through all."""

import unittest
from itertools import combinations_with_replacement, permutations, product
from math import factorial

from tests.support import made, made_folds
from wetfolds.errors import InvalidIndex, TooMany
from wetfolds.formrows import index_of, last_row, least_row, row_at
from wetfolds.forms import count_rows, form_of, rows_of

TOP = 10 ** 6


def all_rows(form):
    """The rows of a form, by all orders and signs of its steps."""
    first, last, steps = form
    rows = set()
    for order in set(permutations(steps)):
        for signs in product((-1, 1), repeat=len(steps)):
            row = [first]
            for step, sign in zip(order, signs):
                row.append(row[-1] + sign * step)
            if row[-1] == last:
                rows.add(tuple(row))
    return sorted(rows)


def plain_form(row):
    steps = sorted(abs(row[at + 1] - row[at]) for at in range(len(row) - 1))
    return (row[0], row[-1], tuple(steps))


class Forms(unittest.TestCase):
    def check_form(self, form):
        rows = all_rows(form)
        self.assertEqual(count_rows(form), len(rows))
        self.assertEqual(least_row(form), rows[0] if rows else None)
        self.assertEqual(last_row(form), rows[-1] if rows else None)
        for index in (-1, len(rows)):
            with self.assertRaises(InvalidIndex):
                row_at(form, index)
        if len(rows) <= 1000:
            self.assertEqual(rows_of(form), rows)
        for index in range(0, len(rows), 1 + len(rows) // 40):
            self.assertEqual(row_at(form, index), rows[index])
            self.assertEqual(index_of(rows[index]), index)

    def test_form_of(self):
        self.assertEqual(form_of((5,)), (5, 5, ()))
        self.assertEqual(form_of((5, 5)), (5, 5, (0,)))
        self.assertEqual(form_of((5, 1, 4)), (5, 4, (3, 4)))
        self.assertEqual(form_of((TOP, -TOP)), (TOP, -TOP, (2 * TOP,)))
        self.assertEqual(form_of((0, 3) * 6), (0, 3, (3,) * 11))
        rng = made(14)
        for _ in range(200):
            row = made_folds(rng, 12, 30, 1)
            self.assertEqual(form_of(row), plain_form(row))

    def test_all_small_forms(self):
        for many in range(4):
            for steps in combinations_with_replacement(range(4), many):
                for last in range(-3, 10):
                    self.check_form((1, last, steps))

    def test_made_forms(self):
        rng = made(15)
        for _ in range(60):
            row = made_folds(rng, 6, rng.choice((1, 2, 3, 9)), 5)
            self.check_form(plain_form(row))
            self.assertEqual(index_of(row), all_rows(plain_form(row)).index(row))

    def test_edges(self):
        self.check_form((4, 4, ()))
        self.check_form((4, 5, ()))
        self.check_form((0, 0, (0,)))
        self.check_form((0, 0, (0, 0, 0)))
        self.check_form((0, 1, (0, 0)))
        self.check_form((0, 0, (1,)))
        self.check_form((2, 2, (0, 1, 1)))
        self.check_form((0, 0, (2, 2, 2, 2)))
        self.assertEqual(rows_of((3, 3, ())), [(3,)])
        self.assertEqual(rows_of((3, 4, ())), [])
        self.assertEqual(row_at((3, 3, ()), 0), (3,))
        self.assertEqual(index_of((3,)), 0)
        self.assertEqual(rows_of((0, 0, (0,) * 11)), [(0,) * 12])

    def test_rows_with_creases_beyond_the_limit(self):
        form = (TOP, TOP, (2 * TOP, 2 * TOP))
        self.assertEqual(rows_of(form), [(TOP, -TOP, TOP), (TOP, 3 * TOP, TOP)])
        self.assertEqual(last_row(form), (TOP, 3 * TOP, TOP))
        self.assertEqual(least_row((-TOP, -TOP, (2 * TOP, 2 * TOP))), (-TOP, -3 * TOP, -TOP))
        self.assertEqual(row_at(form, 1), (TOP, 3 * TOP, TOP))
        self.assertEqual(index_of((TOP, -TOP, TOP)), 0)
        form = (-TOP, TOP, (2 * TOP,) * 11)
        self.assertEqual(count_rows(form), 462)
        self.assertEqual(last_row(form), tuple((2 * k - 1) * TOP for k in (0, 1, 2, 3, 4, 5, 6, 5, 4, 3, 2, 1)))

    def test_too_many_rows(self):
        # No form has 991 to 1007 rows: these are orders of steps times choices of signs, and none make such a number.
        for form, many in (((0, 0, (1,) * 10 + (6,)), 990), ((0, 6, (0,) * 8 + (1, 2, 3)), 990)):
            self.assertEqual(count_rows(form), many)
            rows = rows_of(form)
            self.assertEqual(len(rows), many)
            self.assertEqual(rows, sorted(set(rows)))
            self.assertEqual({plain_form(row) for row in rows}, {form})
        for form in ((0, 2, (1,) * 6 + (3, 3)), (0, 10, tuple(range(1, 12)))):
            self.assertGreater(count_rows(form), 1000)
            with self.assertRaises(TooMany) as caught:
                rows_of(form)
            self.assertEqual(caught.exception.limit, 1000)
        self.assertEqual(count_rows((0, 2, (1,) * 6 + (3, 3))), 1008)

    def test_eleven_unlike_steps(self):
        steps = tuple(range(1, 12))
        form = (0, 66, steps)
        self.assertEqual(count_rows(form), factorial(11))
        self.assertEqual(least_row(form)[:3], (0, 1, 3))
        self.assertEqual(last_row(form)[:3], (0, 11, 21))
        form = (0, 10, steps)
        ways = sum(1 for signs in product((-1, 1), repeat=11) if sum(a * b for a, b in zip(signs, steps)) == 10)
        self.assertEqual(count_rows(form), factorial(11) * ways)
        for index in (0, 1, 123456789, count_rows(form) // 2, count_rows(form) - 1):
            row = row_at(form, index)
            self.assertEqual(plain_form(row), form)
            self.assertEqual(index_of(row), index)
        self.assertEqual(row_at(form, 0), least_row(form))
        self.assertEqual(row_at(form, count_rows(form) - 1), last_row(form))
        self.assertLess(row_at(form, 123456789), row_at(form, 123456790))
        with self.assertRaises(InvalidIndex):
            row_at(form, count_rows(form))
        powers = tuple(3 ** k for k in range(11))
        self.assertEqual(count_rows((0, sum(powers), powers)), factorial(11))
        self.assertEqual(count_rows((0, sum(powers) - 1, powers)), 0)
        self.assertEqual(count_rows((0, sum(powers) - 2, powers)), factorial(11))

    def test_rows_of_twelve_folds(self):
        rng = made(16)
        for _ in range(20):
            row = made_folds(rng, 12, 10 ** rng.randint(0, 6), 12)
            form = form_of(row)
            index = index_of(row)
            self.assertEqual(row_at(form, index), row)
            self.assertLessEqual(least_row(form), row)
            self.assertLessEqual(row, last_row(form))
            self.assertLess(index, count_rows(form))
            if index > 0:
                self.assertLess(row_at(form, index - 1), row)
            if index + 1 < count_rows(form):
                self.assertLess(row, row_at(form, index + 1))


if __name__ == "__main__":
    unittest.main()
