"""wetfolds.ringalikes: rows alike on rings, against folding each single drop on them."""

import unittest
from itertools import product

from tests.support import made, made_folds, plain_print, plain_ring_print
from wetfolds.alikerows import rows_alike
from wetfolds.errors import InvalidFolds, TooMany
from wetfolds.ringalikes import alike_on_ring, parting_ring, rings_alike, spot_apart
from wetfolds.rings import ring_folded

# The steps of both rows are x + y, and x - y, for three x and three y with the sum 0, and two steps more. On a ring
# whose size divides an x or a y these are the same ones but for their signs; the two more do the rest.
TO_64 = (
    (-600000, 56401, -33689, -139750, 173408, -29835, -236932, 173408, -796151, 376651, -690090, 561225),
    (-600000, -165359, -73961, -164051, 173408, -251595, 602265, 76226, -352631, 598411, -690090, 561225),
)
TO_63 = (
    (-600000, 113713, 23623, 288505, -138317, 136504, -403199, -124514, -668081, 298444, -946766, 23623),
    (-600000, 113713, 23623, 213988, -283487, 23623, 217852, -283487, 725266, 213988, -988994, 23623),
)

SMALL = [row for many in range(4) for row in product(range(-1, 2), repeat=many)]


def plain_spot(size, row, other):
    """The least place of which one drop is folded to unlike ring drops."""
    for spot in range(size):
        if plain_ring_print(size, spot, row) != plain_ring_print(size, spot, other):
            return spot
    return None


def likely_alike(rng, size):
    """Two rows that are likely to be alike on a ring, and not always on others."""
    row = made_folds(rng, 6, 40, 1)
    other = row[:1] + tuple(row[0] + row[-1] - h for h in row[1:-1][::-1]) + row[-1:] if len(row) > 1 else row
    return row, tuple(h + size * rng.randint(-3, 3) for h in other)


class AlikeOnRings(unittest.TestCase):
    def check(self, size, row, other):
        spot = plain_spot(size, row, other)
        self.assertEqual(spot_apart(size, row, other), spot, (size, row, other))
        self.assertIs(alike_on_ring(size, row, other), spot is None)
        return spot

    def test_all_small_rows(self):
        for size in range(1, 7):
            prints = {row: [plain_ring_print(size, spot, row) for spot in range(size)] for row in SMALL}
            for row in SMALL:
                for other in SMALL:
                    unlike = [spot for spot in range(size) if prints[row][spot] != prints[other][spot]]
                    self.assertEqual(spot_apart(size, row, other), unlike[0] if unlike else None)
                    self.assertIs(alike_on_ring(size, row, other), not unlike)

    def test_made_rows(self):
        rng = made(101)
        seen = []
        for _ in range(400):
            size = rng.randint(1, 16)
            seen.append(self.check(size, *likely_alike(rng, rng.choice((size, size, 2 * size, 7)))))
            self.check(size, made_folds(rng, 6, 30), made_folds(rng, 6, 30))
        self.assertTrue({0, None} <= set(seen))
        self.assertGreater(seen.count(None), 100)

    def test_places_that_part_but_0(self):
        # On a ring of an even size a drop at an even place may come alike by rows that part one at an odd place.
        self.assertEqual(self.check(2, (0, 0), (0, 1)), 0)
        found = set()
        for size in (2, 4, 6, 8):
            for row in product(range(size), repeat=2):
                for other in product(range(size), repeat=2):
                    found.add(spot_apart(size, row, other))
        self.assertEqual(found, {None, 0, 1})
        self.assertEqual(self.check(4, (0, 2), (2, 0)), None)
        self.assertEqual(self.check(4, (0, 2), (0, 0)), 0)
        rng = made(102)
        parted = 0
        for _ in range(300):
            size = rng.choice((4, 6, 8, 12))
            row, other = made_folds(rng, 3, size, 3), made_folds(rng, 3, size, 3)
            parted += self.check(size, row, other) == 1
        self.assertGreater(parted, 0)

    def test_great_rings(self):
        rng = made(103)
        for size in (31, 32, 45, 63, 64):
            for _ in range(3):
                self.check(size, *likely_alike(rng, size))
                self.check(size, made_folds(rng, 12, 10 ** 6), made_folds(rng, 12, 10 ** 6))
        self.assertEqual(self.check(64, (0,), (64,)), None)
        self.assertEqual(self.check(64, (0,), (32,)), 0)
        self.assertEqual(self.check(63, (-10 ** 6,), (10 ** 6,)), 0)
        self.assertEqual(self.check(64, (-10 ** 6,), (10 ** 6,)), None)

    def test_all_ring_drops_alike(self):
        rng = made(104)
        for _ in range(100):
            size = rng.randint(1, 12)
            row, other = likely_alike(rng, size)
            drops = tuple(rng.randint(0, 5) for _ in range(size))
            if alike_on_ring(size, row, other):
                self.assertEqual(ring_folded(size, drops, row), ring_folded(size, drops, other))

    def test_no_folds(self):
        for size in (1, 2, 3, 64):
            self.assertIs(alike_on_ring(size, (), ()), True)
            self.assertIsNone(spot_apart(size, (), ()))
            self.assertIs(alike_on_ring(size, (), (0,)), False)
            self.assertEqual(spot_apart(size, (3,), ()), 0)


class PartingRings(unittest.TestCase):
    def test_all_small_rows(self):
        sizes = range(1, 10)
        prints = {row: [[plain_ring_print(size, spot, row) for spot in range(size)] for size in sizes] for row in SMALL}
        for row in SMALL:
            for other in SMALL:
                parted = [size for size in sizes if prints[row][size - 1] != prints[other][size - 1]]
                self.assertEqual(parting_ring(row, other), parted[0] if parted else None)
                self.assertEqual(rings_alike(row, other)[:9 - len(parted)],
                                 [size for size in sizes if size not in parted])

    def test_made_rows(self):
        rng = made(105)
        for _ in range(60):
            row, other = likely_alike(rng, rng.choice((1, 6, 12, 60, 420)))
            sizes = [size for size in range(1, 33) if plain_spot(size, row, other) is None]
            self.assertEqual(rings_alike(row, other), sizes)
            told = parting_ring(row, other)
            if all(plain_print(place, row) == plain_print(place, other) for place in (0, 1)):
                self.assertIsNone(told)
                self.assertEqual(sizes, list(range(1, 33)))
            else:
                self.assertEqual(told, min([size for size in range(1, 34) if size not in sizes]))

    def test_alike_on_all_rings_just_if_they_do_the_same_to_all_strips(self):
        for row in SMALL:
            for other in SMALL:
                self.assertEqual(parting_ring(row, other) is None, rows_alike(row, other))

    def test_creases_that_are_one_on_many_rings(self):
        # 720720 can be divided by 1, 2 .. 16.
        self.assertEqual(parting_ring((0,), (720720,)), 17)
        self.assertEqual(parting_ring((5, 0), (5, -720720)), 17)
        self.assertEqual(rings_alike((0,), (720720,)),
                         [size for size in range(1, 33) if 720720 % size == 0])
        self.assertEqual(parting_ring((-10 ** 6, 10 ** 6), (10 ** 6, -10 ** 6)), 3)
        self.assertIsNone(parting_ring((), ()))
        self.assertEqual(parting_ring((), (0,)), 1)
        self.assertEqual(parting_ring((0,) * 12, (0,) * 11), 1)

    def test_alike_on_all_rings_to_64_and_not_on_the_next_one(self):
        for pair, last in ((TO_64, 64), (TO_63, 63)):
            for size in list(range(1, 12)) + [31, 32, 45, last]:
                self.assertIsNone(plain_spot(size, *pair))
            for size in range(1, last + 1):
                self.assertEqual(plain_ring_print(size, 0, pair[0]), plain_ring_print(size, 0, pair[1]))
                self.assertIs(alike_on_ring(size, *pair), True)
            self.assertEqual(plain_spot(last + 1, *pair), 0)
            self.assertEqual(rings_alike(*pair), list(range(1, 33)))
            self.assertIs(rows_alike(*pair), False)
        for row, other in (TO_63, TO_63[::-1]):
            self.assertEqual(parting_ring(row, other), 64)
        for row, other in (TO_64, TO_64[::-1]):
            with self.assertRaises(TooMany) as caught:
                parting_ring(row, other)
            self.assertEqual(caught.exception.limit, 64)
            with self.assertRaises(InvalidFolds):
                parting_ring(list(row), other)
            with self.assertRaises(InvalidFolds):
                parting_ring(row, other + (0,))
            self.assertIsNone(parting_ring(row, row))

    def test_nothing_told_of_rings_above_32(self):
        self.assertEqual(rings_alike((3,), (3,)), list(range(1, 33)))
        self.assertEqual(rings_alike((0,), (64 * 33,))[-1], 32)


if __name__ == "__main__":
    unittest.main()
