"""wetfolds.greatestlots: lots that came of lots, against folding all small lots."""

import unittest
from itertools import combinations, product

from tests.support import made, plain_ink
from wetfolds.errors import TooMany
from wetfolds.greatestlots import comes_of_some, fewest_before, greatest_lot
from wetfolds.inkedplaces import inked_by

FAR = 3
PLACES = range(-FAR, FAR + 1)
LOTS = [lot for many in range(2 * FAR + 2) for lot in combinations(PLACES, many)]
ROWS = [row for many in range(3) for row in product(range(-3, 4), repeat=many)] + [
    (0, 1, 2), (0, 2, 0), (1, 1, 1), (-2, 0, 2), (0, 0, 1), (3, -3, 3), (1, 0, 1), (1, 2, 3, 4), (0, 1, 0, 1)]


class GreatestLots(unittest.TestCase):
    def test_all_small_lots(self):
        for row in ROWS:
            alone = {x: set(plain_ink([x], row)) for x in PLACES}
            before = {}
            for lot in sorted(LOTS, key=lambda lot: (len(lot), lot)):
                # What came within the places came of a lot within them; the first one is the one asked for.
                before.setdefault(tuple(sorted(set().union(*[alone[x] for x in lot]))), lot)
            for lot in LOTS:
                greatest = tuple(x for x in PLACES if alone[x] <= set(lot))
                self.assertEqual(greatest_lot(lot, row), greatest)
                self.assertIs(comes_of_some(lot, row), lot in before)
                self.assertEqual(fewest_before(lot, row), before.get(lot))

    def test_lots_of_lots(self):
        rng = made(86)
        for _ in range(200):
            row = tuple(rng.randint(-8, 8) for _ in range(rng.randint(0, 5)))
            start = tuple(sorted(rng.sample(range(-9, 10), rng.randint(0, 4))))
            lot = plain_ink(start, row)
            if len(lot) <= 256:
                greatest = greatest_lot(lot, row)
                self.assertLessEqual(set(start), set(greatest))
                self.assertEqual(plain_ink(greatest, row), lot)
                self.assertIs(comes_of_some(lot, row), True)
                self.assertEqual(greatest_lot(plain_ink(greatest, row), row), greatest)
                if len(greatest) <= 14:
                    fewest = fewest_before(lot, row)
                    self.assertLessEqual((len(fewest), fewest), (len(start), start))
                    self.assertEqual(plain_ink(fewest, row), lot)

    def test_lots_that_come_to_one(self):
        rng = made(87)
        for _ in range(300):
            row = rng.choice(ROWS)
            lots = [rng.choice(LOTS), rng.choice(LOTS)]
            came = [plain_ink(lot, row) for lot in lots]
            self.assertEqual(greatest_lot(came[0], row) == greatest_lot(came[1], row), came[0] == came[1])

    def test_no_folds_and_no_places(self):
        for lot in ((), (4,), (-10 ** 5, 10 ** 5), tuple(range(14))):
            self.assertEqual(greatest_lot(lot, ()), lot)
            self.assertIs(comes_of_some(lot, ()), True)
            self.assertEqual(fewest_before(lot, ()), lot)
        for row in ((0,), (1, 5), (2,) * 12):
            self.assertEqual(greatest_lot((), row), ())
            self.assertIs(comes_of_some((), row), True)
            self.assertEqual(fewest_before((), row), ())
        self.assertIsNone(fewest_before((0, 1), (0,)))
        self.assertEqual(greatest_lot((0, 1), (5,)), ())

    def test_whole_lots(self):
        whole = tuple(range(-128, 128))
        self.assertEqual(greatest_lot(whole, (-1,) * 12), whole)
        self.assertIs(comes_of_some(whole, (-1,) * 12), True)
        self.assertEqual(greatest_lot(whole, (0,)), whole[1:])
        self.assertIs(comes_of_some(whole, (0,)), False)
        row = tuple(2 ** k - 1 for k in range(1, 9))
        lot = inked_by((0,), row)
        self.assertEqual(lot, tuple(range(256)))
        self.assertEqual(greatest_lot(lot, row), (0, 1))
        self.assertEqual(fewest_before(lot, row), (0,))

    def test_places_at_their_limits(self):
        top = 10 ** 5
        self.assertEqual(greatest_lot((-top, top), (0,)), (-top, top))
        self.assertEqual(fewest_before((-top, top), (0,)), (-top,))
        self.assertEqual(greatest_lot((-top, top), (10 ** 6,)), ())
        self.assertEqual(greatest_lot((-top, top), (0, 2 * top)), ())

    def test_limit_of_places(self):
        fourteen = tuple(range(14))
        self.assertEqual(fewest_before(fourteen, (13,)), (0, 1, 2, 3, 4, 5, 6))
        self.assertIsNone(fewest_before(fourteen, (12,)))
        # Of fifteen places only fourteen come to these alone.
        self.assertEqual(fewest_before(fourteen + (20,), (13,)), None)
        self.assertEqual(fewest_before(tuple(range(-1, 27, 2)) + (90,), (25, 25)), None)
        for lot, row in ((tuple(range(15)), ()), (tuple(range(15)), (14,)), (tuple(range(16)), (15,)),
                         (tuple(range(15)) + (90,), (14,)), (tuple(range(256)), (255,) * 12)):
            with self.assertRaises(TooMany) as caught:
                fewest_before(lot, row)
            self.assertEqual(caught.exception.limit, 14)
            self.assertIn(comes_of_some(lot, row), (True, False))


if __name__ == "__main__":
    unittest.main()
