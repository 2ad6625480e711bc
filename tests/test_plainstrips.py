"""wetfolds.plainstrips: plain strips, and ways from one strip to another one."""

import unittest

from tests.support import FAR, HUGE, long_strip, made, made_strip
from wetfolds.plainstrips import plain_strip, way_between


def moved(strip, by):
    return tuple(sorted((x + by, drops) for x, drops in strip))


def mirrored(strip, h):
    return tuple(sorted((h - x, drops) for x, drops in strip))


def plainly(strip):
    """The plain strip, found among all that come of moving and mirroring."""
    found = [moved(strip, by) for by in range(-60, 61)] + [mirrored(strip, h) for h in range(-60, 61)]
    return min(other for other in found if other == () or other[0][0] == 0)


def plain_way(strip, other):
    for by in range(-90, 91):
        if moved(strip, by) == other and (strip != () or by == 0):
            return ("moved", by)
    for h in range(-90, 91):
        if mirrored(strip, h) == other:
            return ("mirrored", h)
    return None


class PlainStrips(unittest.TestCase):
    def test_plain_strip(self):
        self.assertEqual(plain_strip(()), ())
        self.assertEqual(plain_strip(((-7, 3),)), ((0, 3),))
        self.assertEqual(plain_strip(((-7, 3), (1, 2))), ((0, 2), (8, 3)))
        self.assertEqual(plain_strip(((-7, 2), (1, 3))), ((0, 2), (8, 3)))
        self.assertEqual(plain_strip(((0, 1), (1, 1), (5, 1))), ((0, 1), (1, 1), (5, 1)))
        self.assertEqual(plain_strip(((0, 1), (4, 1), (5, 1))), ((0, 1), (1, 1), (5, 1)))
        self.assertEqual(plain_strip(((-FAR, HUGE), (FAR, 1))), ((0, 1), (2 * FAR, HUGE)))
        self.assertEqual(plain_strip(long_strip(200)), long_strip(200))

    def test_way_between(self):
        self.assertEqual(way_between((), ()), ("moved", 0))
        self.assertIsNone(way_between((), ((0, 1),)))
        self.assertIsNone(way_between(((0, 1),), ()))
        self.assertEqual(way_between(((3, 2),), ((-4, 2),)), ("moved", -7))
        self.assertIsNone(way_between(((3, 2),), ((3, 1),)))
        # What is its own mirror is moved, not mirrored.
        self.assertEqual(way_between(((0, 1), (3, 1)), ((5, 1), (8, 1))), ("moved", 5))
        self.assertEqual(way_between(((0, 1), (3, 2)), ((0, 2), (3, 1))), ("mirrored", 3))
        self.assertIsNone(way_between(((0, 1), (3, 2)), ((0, 2), (4, 1))))
        self.assertIsNone(way_between(((0, 1), (3, 2)), ((0, 1), (3, 2), (4, 1))))
        self.assertIsNone(way_between(((0, 1), (1, 1), (3, 1)), ((0, 1), (1, 1), (4, 1))))
        # By and h may be greater than any crease or number that is handed in.
        self.assertEqual(way_between(((-FAR, 1),), ((FAR, 1),)), ("moved", 2 * FAR))
        self.assertEqual(way_between(((FAR - 1, 1), (FAR, 2)), ((FAR - 1, 2), (FAR, 1))), ("mirrored", 2 * FAR - 1))

    def test_against_all_ways(self):
        rng = made(7)
        for _ in range(150):
            strip, h = made_strip(rng, 4, 10, 2), rng.randint(-15, 15)
            self.assertEqual(plain_strip(strip), plainly(strip))
            for other in (moved(strip, h), mirrored(strip, h), made_strip(rng, 2, 2, 2), made_strip(rng, 4, 10, 2)):
                self.assertEqual(way_between(strip, other), plain_way(strip, other))
                self.assertEqual(plain_strip(strip) == plain_strip(other), plain_way(strip, other) is not None)


if __name__ == "__main__":
    unittest.main()
