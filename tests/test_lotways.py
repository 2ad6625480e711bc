"""wetfolds.lotways: ways of lots and the rows that bring one place to them, against trying all."""

import unittest
from itertools import combinations, combinations_with_replacement

from tests.support import FAR, made, made_folds, plain_ink
from wetfolds.errors import EmptyLot, NotInked, TooMany
from wetfolds.lotways import fewest_ways, row_from


def plain_lot(first, ways):
    lot = {first}
    for way in ways:
        lot |= {place + way for place in lot}
    return tuple(sorted(lot))


def best_ways(far, most):
    """A dict that tells of each lot from 0 on, as far as told, the first of its ways with the fewest integers."""
    found = {}
    for many in range(most + 1):
        for ways in combinations_with_replacement(range(1, far + 1), many):
            if sum(ways) <= far:
                found.setdefault(plain_lot(0, ways), ways)
    return found


def best_rows(far):
    """A dict that tells of each pair of a place and of a lot within places from 0 on how few folds lead there."""
    found = {(place, (place,)): 0 for place in range(far + 1)}
    now = list(found)
    many = 0
    while now:
        many += 1
        further = []
        for place, lot in now:
            for h in range(lot[-1], lot[0] + far + 1):
                came = (place, tuple(sorted(set(lot) | {h - x for x in lot})))
                if came not in found:
                    found[came] = many
                    further.append(came)
        now = further
    return found


class LotWays(unittest.TestCase):
    def test_all_small_lots(self):
        far = 11
        best = best_ways(far, 6)
        rows = best_rows(far)
        for many in range(far + 1):
            for further in combinations(range(1, far + 1), many):
                lot = (0,) + further
                ways = best.get(lot)
                self.assertEqual(fewest_ways(lot), ways)
                moved = tuple(x - 7 for x in lot)
                self.assertEqual(fewest_ways(moved), ways)
                for place in lot[::3] + lot[-1:]:
                    row = row_from(place, lot)
                    self.assertEqual(row is None, ways is None)
                    self.assertEqual((place, lot) in rows, ways is not None)
                    if row is not None:
                        self.assertEqual(len(row), len(ways))
                        self.assertEqual(len(row), rows[place, lot])
                        self.assertEqual(plain_ink([place], row), lot)

    def test_lots_of_made_ways(self):
        rng = made(80)
        done = 0
        for _ in range(400):
            ways = [rng.choice((1, 2, 3, 5, 8, 40, 900)) for _ in range(rng.randint(0, 8))]
            lot = plain_lot(rng.randint(-900, 900), ways)
            if len(lot) <= 32:
                found = fewest_ways(lot)
                self.assertLessEqual((len(found), found), (len(ways), tuple(sorted(ways))))
                self.assertEqual(found, tuple(sorted(found)))
                self.assertEqual(plain_lot(lot[0], found), lot)
                place = rng.choice(lot)
                row = row_from(place, lot)
                self.assertEqual(len(row), len(found))
                self.assertEqual(plain_ink([place], row), lot)
                done += 1
        self.assertGreater(done, 200)

    def test_prints_of_rows(self):
        rng = made(81)
        for _ in range(200):
            row, place = made_folds(rng, 8, 6), rng.randint(-6, 6)
            lot = plain_ink([place], row)
            if len(lot) <= 32:
                for x in lot[::4]:
                    back = row_from(x, lot)
                    self.assertLessEqual(len(back), len(row))
                    self.assertEqual(plain_ink([x], back), lot)

    def test_lots_that_are_no_prints(self):
        for lot in ((0, 1, 3), (0, 2, 3), (0, 1, 2, 4), (0, 1, 3, 4, 5), (0, 1, 4, 5, 6), (0, 2, 3, 5, 7),
                    (0, 1, 3, 5, 6), tuple(range(13)) + (14,) + tuple(range(16, 29)),
                    (0,) + tuple(range(2, 29)) + (31,)):
            self.assertIsNone(fewest_ways(lot))
            for place in lot:
                self.assertIsNone(row_from(place, lot))

    def test_one_place(self):
        for place in (0, 5, 10 ** 5, -10 ** 5):
            self.assertEqual(fewest_ways((place,)), ())
            self.assertEqual(row_from(place, (place,)), ())

    def test_places_at_their_limits(self):
        lot = (-10 ** 5, 10 ** 5)
        self.assertEqual(fewest_ways(lot), (2 * 10 ** 5,))
        self.assertEqual(row_from(10 ** 5, lot), (0,))
        self.assertEqual(row_from(-10 ** 5, lot), (0,))
        lot = plain_lot(-10 ** 5, (50000, 70000, 80000))
        for place in lot:
            row = row_from(place, lot)
            self.assertEqual((len(row), plain_ink([place], row)), (3, lot))
            self.assertLessEqual(max(map(abs, row)), 10 ** 6)

    def test_thirty_two_places(self):
        self.assertEqual(fewest_ways(tuple(range(32))), (1, 2, 4, 8, 16))
        self.assertEqual(fewest_ways(tuple(range(31))), (1, 2, 4, 8, 15))
        self.assertEqual(fewest_ways(tuple(range(21))), (1, 1, 3, 5, 10))
        self.assertEqual(fewest_ways(plain_lot(0, (1, 10, 100, 1000, 10000))), (1, 10, 100, 1000, 10000))
        self.assertEqual(fewest_ways(plain_lot(0, (1,) * 7 + (100,) * 3)), (1, 2, 4, 100, 200))
        self.assertEqual(plain_ink([17], row_from(17, tuple(range(32)))), tuple(range(32)))
        for lot in (tuple(range(33)), tuple(range(256)), tuple(x * x for x in range(33))):
            with self.assertRaises(TooMany) as caught:
                fewest_ways(lot)
            self.assertEqual(caught.exception.limit, 32)
            with self.assertRaises(TooMany) as caught:
                row_from(1, lot)
            self.assertEqual(caught.exception.limit, 32)
            with self.assertRaises(NotInked):
                row_from(-1, lot)

    def test_no_place(self):
        with self.assertRaises(EmptyLot):
            fewest_ways(())
        for place in (0, FAR, -FAR):
            with self.assertRaises(EmptyLot):
                row_from(place, ())
            with self.assertRaises(NotInked):
                row_from(place, (1, 2))


if __name__ == "__main__":
    unittest.main()
