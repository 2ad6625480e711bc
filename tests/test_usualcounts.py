"""wetfolds.usualcounts: to how many places each place comes, against folding all near places."""

import unittest

from tests.support import made, made_folds, plain_ink, row_by
from wetfolds.errors import NoFolds, TooMany
from wetfolds.usualcounts import unusual_places, usual_count


def count_of(place, row):
    return len(plain_ink([place], row))


class UsualCounts(unittest.TestCase):
    def test_made_rows(self):
        rng = made(85)
        for most, far in ((3, 6), (5, 3), (4, 10)):
            for _ in range(60):
                row = made_folds(rng, most, far, 1)
                usual = count_of(10 ** 5, row)
                reach = 12 * far
                self.assertEqual(usual_count(row), usual)
                self.assertEqual(unusual_places(row),
                                 [x for x in range(-reach, reach + 1) if count_of(x, row) != usual])
                for x in (-10 ** 5, 10 ** 5 + 1, reach + 1):
                    self.assertEqual(count_of(x, row), usual)

    def test_one_fold(self):
        for h in (0, 2, -4, 10 ** 6, -10 ** 6):
            self.assertEqual(usual_count((h,)), 2)
            self.assertEqual(unusual_places((h,)), [h // 2])
        for h in (1, -1, 7, 10 ** 6 - 1):
            self.assertEqual(usual_count((h,)), 2)
            self.assertEqual(unusual_places((h,)), [])

    def test_equal_creases(self):
        for many in range(1, 9):
            self.assertEqual(usual_count((4,) * many), 2)
            self.assertEqual(unusual_places((4,) * many), [2])
            self.assertEqual(unusual_places((5,) * many), [])
        self.assertEqual(usual_count((4, 4, 6)), 4)

    def test_eight_folds(self):
        row = tuple(range(8))
        self.assertEqual(usual_count(row), 16)
        self.assertEqual(unusual_places(row), [x for x in range(-60, 60) if count_of(x, row) != 16])
        free = row_by(0, [3 ** k for k in range(7)])
        self.assertEqual(usual_count(free), 256)
        places = unusual_places(free)
        self.assertEqual(len(places), len(set(places)))
        self.assertEqual(places, sorted(places))
        for x in places[::97]:
            self.assertLess(count_of(x, free), 256)
        for x in sorted(set(range(-300, 300)) - set(places))[::7] + [places[0] - 1, places[-1] + 1]:
            self.assertEqual(count_of(x, free), 256)

    def test_creases_at_their_limits(self):
        top = 10 ** 6
        self.assertEqual(usual_count((top, -top)), 4)
        self.assertEqual(unusual_places((top, -top)), [top // 2 - top, top // 2, top // 2 + top])
        self.assertEqual(usual_count((top, -top) * 4), 16)

    def test_how_many_folds(self):
        for function in (usual_count, unusual_places):
            with self.assertRaises(NoFolds):
                function(())
            for row in (tuple(range(9)), (0,) * 9, (1,) * 12):
                with self.assertRaises(TooMany) as caught:
                    function(row)
                self.assertEqual(caught.exception.limit, 8)


if __name__ == "__main__":
    unittest.main()
