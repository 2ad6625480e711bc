"""wetfolds.likerows: the shortest rows alike by places, against going through all short rows."""

import unittest
from itertools import product
from unittest import mock

from tests.support import made, made_folds, plain_ink, row_by
from wetfolds.errors import TooMany
from wetfolds.inkedplaces import alike_by_places
from wetfolds.likerows import fewest_folds, least_ink_row, step_lots


def inks_of(row):
    """What tells small rows apart: the lots of some single places."""
    return tuple(plain_ink([place], row) for place in (0, 1, -1, 2, -2, 3, 5, 9, 20, -20))


def plain_sums(steps):
    """The sums of some of the steps, or of none."""
    sums = {0}
    for step in steps:
        sums |= {told + step for told in sums}
    return sums


def partitions(total, least, most):
    """All tuples of at most so many integers, from the least on and in order, with a sum."""
    if total == 0:
        yield ()
    if most:
        for part in range(least, total + 1):
            for rest in partitions(total - part, part, most - 1):
                yield (part,) + rest


def plain_step_lots(row):
    """All tuples of at most seven steps with the same sums."""
    if not row:
        return []
    steps = [abs(b - a) for a, b in zip(row, row[1:])]
    goal = plain_sums(steps)
    return sorted(parts for parts in partitions(sum(steps), 1, 7) if plain_sums(parts) == goal)


class ShortestRows(unittest.TestCase):
    def test_against_all_short_rows(self):
        # What is alike to a row of four folds with creases from 0 to 2 goes no farther than its steps lead.
        for first in range(3):
            least = {}
            for many in range(4):
                for further in product(range(first - 6, first + 7), repeat=many):
                    least.setdefault(inks_of((first,) + further), (first,) + further)
            for many in range(4):
                for further in product(range(3), repeat=many):
                    row = (first,) + further
                    self.assertEqual(least_ink_row(row), least[inks_of(row)])
                    self.assertEqual(fewest_folds(row), len(least[inks_of(row)]))

    def test_made_rows(self):
        rng = made(78)
        for _ in range(200):
            row = made_folds(rng, 8, rng.choice((2, 4, 30)))
            least = least_ink_row(row)
            self.assertEqual(len(least), fewest_folds(row))
            self.assertLessEqual(len(least), len(row))
            self.assertIs(alike_by_places(row, least), True)
            if len(least) == len(row):
                self.assertLessEqual(least, row)
            if row:
                lots = step_lots(row)
                self.assertEqual(fewest_folds(row), 1 + min(map(len, lots)))
                # No row with these steps, in any order, and fewer of them than others, comes ahead.
                for steps in [steps for steps in lots if len(steps) == len(least) - 1][:5]:
                    for _ in range(20):
                        other = row_by(row[0], [rng.choice((-1, 1)) * way for way in rng.sample(steps, len(steps))])
                        if other[-1] == row[-1]:
                            self.assertLessEqual(least, other)

    def test_least_of_several_steps(self):
        # (1, 1, 2), and no other three steps, make 0 to 4; (1, 1, 1, 1) are more.
        self.assertEqual(least_ink_row((0, 1, 2, 3, 4)), (0, 1, 2, 4))
        self.assertEqual(least_ink_row((4, 3, 2, 1, 0)), (4, 2, 1, 0))
        self.assertEqual(least_ink_row((0, 1, 2, 1, 2)), (0, -1, 0, 2))
        # (1, 2, 2) and (1, 1, 3) make 0 to 5.
        self.assertEqual(step_lots((0, 1, 3, 5)), [(1, 1, 1, 1, 1), (1, 1, 1, 2), (1, 1, 3), (1, 2, 2)])
        self.assertEqual(least_ink_row((0, 1, 3, 5)), (0, 1, 2, 5))
        self.assertEqual(least_ink_row((0, 1, 3, 1)), (0, -2, -1, 1))
        self.assertEqual(least_ink_row((0, -1, -3, -1)), (0, -3, -2, -1))
        self.assertEqual(least_ink_row((0, 1, 2, -1)), (0, -3, -2, -1))

    def test_no_folds_and_steps_of_0(self):
        self.assertEqual(fewest_folds(()), 0)
        self.assertEqual(least_ink_row(()), ())
        self.assertEqual(step_lots(()), [])
        for many in range(1, 9):
            self.assertEqual(fewest_folds((5,) * many), 1)
            self.assertEqual(least_ink_row((5,) * many), (5,))
            self.assertEqual(step_lots((5,) * many), [()])
        self.assertEqual(least_ink_row((5, 5, 7, 7, 7)), (5, 7))
        self.assertEqual(step_lots((5, 5, 7, 7, 7)), [(2,)])

    def test_creases_at_their_limits(self):
        top = 10 ** 6
        row = (top, -top) * 4
        self.assertEqual(fewest_folds(row), 4)
        self.assertEqual(least_ink_row(row), (top, -7 * top, -5 * top, -top))
        self.assertEqual(least_ink_row(row[1:]), (-top, -7 * top, -5 * top, -top))
        self.assertEqual(step_lots((top, -top, top)), [(2 * top, 2 * top)])
        self.assertEqual(step_lots(row[:4]), [(2 * top,) * 3, (2 * top, 4 * top)])

    def test_eight_folds(self):
        self.assertEqual(fewest_folds(tuple(range(8))), 4)
        self.assertEqual(least_ink_row(tuple(range(8))), (0, 1, 3, 7))
        free = row_by(0, [3 ** k for k in range(7)])
        self.assertEqual(fewest_folds(free), 8)
        self.assertEqual(least_ink_row(free), free)
        self.assertEqual(step_lots(free), [tuple(3 ** k for k in range(7))])
        for function in (fewest_folds, least_ink_row, step_lots):
            for row in (tuple(range(9)), (0,) * 9, (0,) * 12):
                with self.assertRaises(TooMany) as caught:
                    function(row)
                self.assertEqual(caught.exception.limit, 8)


class StepLots(unittest.TestCase):
    def test_against_all_partitions(self):
        rng = made(79)
        for _ in range(150):
            row = row_by(rng.randint(-5, 5), [rng.randint(-5, 5) for _ in range(rng.randint(0, 7))])
            if sum(abs(b - a) for a, b in zip(row, row[1:])) <= 20:
                self.assertEqual(step_lots(row), plain_step_lots(row))
        for many in range(9):
            row = tuple(range(many))
            self.assertEqual(step_lots(row), plain_step_lots(row))

    def test_limit_of_tuples(self):
        # No sums were found that 496 to 515 tuples make, so these are next to the limit.
        row = row_by(0, (1, 1, 3, 5, 10, 14))
        lots = step_lots(row)
        self.assertEqual(len(lots), 495)
        self.assertEqual(lots, plain_step_lots(row))
        for steps in ((1, 1, 3, 5, 10, 20, 40), (1, 2, 4, 8, 16, 32, 1), (1, 1, 3, 5, 10, 15), (1, 1, 3, 5, 10, 20)):
            with self.assertRaises(TooMany) as caught:
                step_lots(row_by(0, steps))
            self.assertEqual(caught.exception.limit, 500)

    def test_the_limit_itself(self):
        row = row_by(0, (1, 1, 3, 5, 10, 14))
        with mock.patch("wetfolds.likerows.MOST_STEP_LOTS", 495):
            self.assertEqual(len(step_lots(row)), 495)
        with mock.patch("wetfolds.likerows.MOST_STEP_LOTS", 494):
            with self.assertRaises(TooMany) as caught:
                step_lots(row)
            self.assertEqual(caught.exception.limit, 494)

    def test_more_tuples_than_the_limit_raise_nothing_elsewhere(self):
        row = row_by(0, (1, 2, 4, 8, 16, 32, 1))
        self.assertEqual(fewest_folds(row), 8)
        self.assertEqual(least_ink_row(row), (0, 1, 2, 4, 8, 16, 32, 64))
        self.assertEqual(fewest_folds(row_by(0, (1, 1, 3, 5, 10, 15))), 7)


if __name__ == "__main__":
    unittest.main()
