"""wetfolds.onedrops: parts, places and rows of one drop, against going through all rows."""

import unittest
from itertools import combinations_with_replacement

from tests.support import HUGE, made, made_folds, plain_print, plainly_folded, strip_of
from wetfolds.onedrops import count_drop_rows, drop_places, first_drop_row, parts_of

FAR = 3
MOST = 3


def strip_with(least, parts):
    """The strip that has the parts."""
    sums = [least]
    for part in parts:
        sums += [x + part for x in sums]
    return strip_of(sums)


def all_drop_rows():
    """A dict that tells of each strip within FAR, of 2 ** MOST drops at most, all rows from each place to it."""
    found = {}
    now = [(((place, 1),), place, ()) for place in range(-FAR, FAR + 1)]
    for many in range(MOST + 1):
        further = []
        for strip, place, row in now:
            found.setdefault(strip, {}).setdefault(place, []).append(row)
            # A strip that has come stays, so that all beginnings lie within, too.
            for h in range(-2 * FAR, 2 * FAR + 1) if many < MOST else ():
                came = plainly_folded(strip, (h,))
                if -FAR <= came[0][0] and came[-1][0] <= FAR:
                    further.append((came, place, row + (h,)))
        now = further
    return found


class OneDrops(unittest.TestCase):
    @classmethod
    def setUpClass(cls):
        cls.rows = all_drop_rows()
        cls.parts = {}
        for many in range(MOST + 1):
            for parts in combinations_with_replacement(range(2 * FAR + 1), many):
                for least in range(-FAR, FAR + 1):
                    strip = strip_with(least, parts)
                    if strip[-1][0] <= FAR:
                        # A strip has one such tuple, or none.
                        assert strip not in cls.parts
                        cls.parts[strip] = parts

    def check(self, strip):
        rows = self.rows.get(strip, {})
        self.assertEqual(parts_of(strip), self.parts.get(strip))
        self.assertEqual(drop_places(strip), tuple(sorted(rows)))
        for place in range(-FAR - 2, FAR + 3):
            self.assertEqual(count_drop_rows(strip, place), len(rows.get(place, [])))
            self.assertEqual(first_drop_row(strip, place), min(rows.get(place, [None])))

    def test_strips_that_came_of_one_drop(self):
        self.assertEqual(set(self.rows), set(self.parts))
        for strip in sorted(self.rows):
            self.check(strip)

    def test_other_strips(self):
        rng = made(23)
        for most in (1, 2, 4):
            for _ in range(600):
                total = 9
                while total > 8:
                    places = sorted(rng.sample(range(-FAR, FAR + 1), rng.randint(1, 5)))
                    strip = tuple((place, rng.randint(1, most)) for place in places)
                    total = sum(drops for _, drops in strip)
                self.check(strip)

    def test_one_drop(self):
        for place in (0, 5, -100000, 100000):
            strip = ((place, 1),)
            self.assertEqual(parts_of(strip), ())
            self.assertEqual(drop_places(strip), (place,))
            self.assertEqual(count_drop_rows(strip, place), 1)
            self.assertEqual(first_drop_row(strip, place), ())
            self.assertEqual(count_drop_rows(strip, place + 1), 0)
            self.assertIsNone(first_drop_row(strip, place - 1))

    def test_one_place(self):
        self.assertEqual(parts_of(((7, 4),)), (0, 0))
        self.assertEqual(count_drop_rows(((7, 4),), 7), 1)
        self.assertEqual(first_drop_row(((7, 4),), 7), (14, 14))
        self.assertEqual(parts_of(((7, 4096),)), (0,) * 12)
        self.assertEqual(first_drop_row(((7, 4096),), 7), (14,) * 12)
        for drops in (3, 5, 6, 8191, 8192, 4097, HUGE, 2 ** 390):
            self.assertIsNone(parts_of(((7, drops),)))
            self.assertEqual(drop_places(((7, drops),)), ())
            self.assertEqual(count_drop_rows(((7, drops),), 7), 0)
            self.assertIsNone(first_drop_row(((7, drops),), 7))

    def test_as_many_parts_as_there_can_be(self):
        for parts in ((0,) * 12, (1,) * 12, (3,) * 12, (0,) * 6 + (5,) * 6, tuple(range(12)), tuple(range(1, 13)),
                      (0, 1, 1, 2, 3, 5, 8, 13, 21, 21, 21, 21), (8333,) * 12, (1,) * 11 + (100,)):
            strip = strip_with(-7, parts)
            self.assertLessEqual(len(strip), 200)
            self.assertEqual(parts_of(strip), parts)
            self.assertEqual(drop_places(strip), tuple(place for place, _ in strip))
            for place, _ in strip[::11]:
                row = first_drop_row(strip, place)
                self.assertEqual(plain_print(place, row), strip)
                self.assertGreater(count_drop_rows(strip, place), 0)
            self.assertEqual(count_drop_rows(strip, strip[-1][0] + 1), 0)
        for parts in ((0,) * 13, (1,) * 13, (2,) * 30, (0,) + tuple(range(12))):
            strip = strip_with(0, parts) if len(parts) < 14 else binomials(30)
            self.assertIsNone(parts_of(strip))
            self.assertEqual(drop_places(strip), ())
            self.assertEqual(count_drop_rows(strip, 0), 0)
            self.assertIsNone(first_drop_row(strip, 0))

    def test_counts_of_many_rows(self):
        # By the parts 1 .. 7 each order of them leads from the least place to the greatest one.
        strip = strip_with(0, tuple(range(1, 8)))
        self.assertEqual(count_drop_rows(strip, 0), 5040)
        self.assertEqual(first_drop_row(strip, 0), (1, 3, 6, 10, 15, 21, 28))
        self.assertEqual(first_drop_row(strip, 28), (49, 43, 38, 34, 31, 29, 28))

    def test_farthest_places(self):
        strip = strip_with(-100000, (200000,))
        self.assertEqual(strip, ((-100000, 1), (100000, 1)))
        self.assertEqual(parts_of(strip), (200000,))
        self.assertEqual(first_drop_row(strip, 100000), (0,))
        strip = strip_with(-100000, (66666, 66667, 66667))
        for place, _ in strip:
            row = first_drop_row(strip, place)
            self.assertLessEqual(max(abs(h) for h in row), 10 ** 6)
            self.assertEqual(plain_print(place, row), strip)

    def test_strips_of_many_pairs(self):
        parts = (1, 2, 4, 8, 16, 32, 136)
        strip = strip_with(0, parts)
        self.assertEqual(len(strip), 128)
        self.assertEqual(parts_of(strip), parts)
        self.assertIsNone(parts_of(strip[:-1]))
        self.assertIsNone(parts_of(strip[1:]))
        self.assertIsNone(parts_of(tuple((x, 1) for x in range(200))))
        self.assertIsNone(parts_of(tuple((x, 1) for x in range(127))))
        self.assertEqual(parts_of(tuple((x, 1) for x in range(128))), (1, 2, 4, 8, 16, 32, 64))
        self.assertIsNone(parts_of(((0, 1), (1, 2), (2, 1), (5, 1), (6, 1), (7, 2))))
        self.assertIsNone(parts_of(((0, 2), (1, 1), (2, 1))))
        self.assertIsNone(parts_of(((0, 1), (1, 1), (2, 2))))

    def test_prints_of_made_rows(self):
        rng = made(24)
        for _ in range(150):
            row, place = made_folds(rng, 6, 8), rng.randint(-6, 6)
            strip = plain_print(place, row)
            parts = sorted([abs(a - b) for a, b in zip(row, row[1:])] + [abs(2 * place - h) for h in row[:1]])
            self.assertEqual(parts_of(strip), tuple(parts))
            self.assertIn(place, drop_places(strip))
            self.assertGreater(count_drop_rows(strip, place), 0)
            self.assertLessEqual(first_drop_row(strip, place), row)


def binomials(many):
    """The strip of so many equal parts."""
    line = [1]
    for _ in range(many):
        line = [a + b for a, b in zip([0] + line, line + [0])]
    return tuple((2 * x, drops) for x, drops in enumerate(line))


if __name__ == "__main__":
    unittest.main()
