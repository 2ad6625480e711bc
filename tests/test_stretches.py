"""wetfolds.stretches: rows that ink whole stretches, and holes, against folding places one by one."""

import unittest

from tests.support import FAR, made, made_folds, plain_ink
from wetfolds.errors import InvalidStretch
from wetfolds.stretches import holes_of, inks_whole, stretch_row

TOP = 10 ** 5


class StretchRows(unittest.TestCase):
    def check(self, place, first, last):
        row = stretch_row(place, first, last)
        self.assertEqual(plain_ink([place], row), tuple(range(first, last + 1)))
        # A fold at most doubles the places.
        self.assertEqual(len(row), min(many for many in range(13) if 2 ** many >= last - first + 1))
        self.assertIsInstance(row, tuple)
        self.assertLessEqual(max([abs(h) for h in row], default=0), 10 ** 6)

    def test_all_short_stretches(self):
        for farther in range(20):
            for place in range(farther + 1):
                self.check(place - 5, -5, farther - 5)

    def test_all_lengths(self):
        rng = made(82)
        for farther in range(256):
            first = rng.randint(-300, 300)
            for place in (first, first + farther, first + rng.randint(0, farther)):
                self.check(place, first, first + farther)

    def test_limits(self):
        for first, last in ((-TOP, -TOP + 255), (TOP - 255, TOP), (-TOP, -TOP), (TOP, TOP), (TOP - 1, TOP)):
            for place in (first, last, (first + last) // 2):
                self.check(place, first, last)
        self.assertEqual(len(stretch_row(0, 0, 255)), 8)
        self.assertEqual(len(stretch_row(0, -127, 0)), 7)
        self.assertEqual(stretch_row(-TOP, -TOP, -TOP), ())

    def test_no_stretches(self):
        for values in ((0, 0, 256), (256, 0, 256), (0, -256, 0), (-1, 0, 4), (5, 0, 4), (2, 4, 0), (0, 1, 0), (1, 1, 0),
                       (TOP + 1, TOP, TOP + 1), (-TOP - 1, -TOP - 1, -TOP), (TOP, TOP, TOP + 1), (-TOP, -TOP - 1, -TOP),
                       (0, -TOP, TOP), (None, 0, 4), (1, None, 4), (1, 0, None), (True, 0, 4), (0, False, 4), (0, 0, True),
                       ("1", 0, 4), ((1,), 0, 4), (1, [0], 4)):
            with self.assertRaises(InvalidStretch):
                stretch_row(*values)


class Holes(unittest.TestCase):
    def test_made_lots(self):
        rng = made(83)
        for _ in range(300):
            lot = tuple(sorted(rng.sample(range(-15, 16), rng.randint(1, 12))))
            holes = []
            for x in range(lot[0], lot[-1]):
                if x not in lot:
                    if holes and holes[-1][1] == x - 1:
                        holes[-1] = (holes[-1][0], x)
                    else:
                        holes.append((x, x))
            self.assertEqual(holes_of(lot), holes)

    def test_edges(self):
        for lot in ((), (5,), (TOP,), (3, 4), tuple(range(256)), tuple(range(-TOP, -TOP + 256))):
            self.assertEqual(holes_of(lot), [])
        self.assertEqual(holes_of((-TOP, TOP)), [(1 - TOP, TOP - 1)])
        self.assertEqual(holes_of((-1, 1)), [(0, 0)])
        self.assertEqual(len(holes_of(tuple(range(0, 512, 2)))), 255)

    def test_whole_lots(self):
        rng = made(84)
        whole = 0
        for _ in range(600):
            row, place = made_folds(rng, 8, rng.choice((1, 3, 8))), rng.randint(-4, 4)
            lot = plain_ink([place], row)
            self.assertIs(inks_whole(row, place), lot == tuple(range(lot[0], lot[-1] + 1)))
            whole += inks_whole(row, place)
        self.assertTrue(100 < whole < 500)

    def test_whole_lots_at_the_edges(self):
        for place in (0, FAR, -FAR):
            self.assertIs(inks_whole((), place), True)
            self.assertIs(inks_whole((10 ** 6,), place), False)
        self.assertIs(inks_whole((7,) * 12, 3), True)
        self.assertIs(inks_whole((6,) * 12, 3), True)
        self.assertIs(inks_whole((6,) * 12, 4), False)
        self.assertIs(inks_whole(tuple(2 ** k - 1 for k in range(1, 13)), 0), True)
        self.assertIs(inks_whole(tuple(2 ** k - 1 for k in range(1, 12)) + (4096,), 0), False)
        self.assertIs(inks_whole((1, 2), 0), True)
        self.assertIs(inks_whole((1, 4), 0), False)


if __name__ == "__main__":
    unittest.main()
