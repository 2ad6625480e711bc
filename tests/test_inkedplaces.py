"""wetfolds.inkedplaces: lots and rows alike by places, against folding places one by one."""

import unittest
from itertools import product

from tests.support import FAR, made, made_folds, near_first, plain_ink, row_by
from wetfolds.errors import TooMany
from wetfolds.inkedplaces import alike_by_places, inked_by, place_apart_in_ink, sums_by

NEAR = near_first(9)
SMALL_ROWS = [row for many in range(4) for row in product(range(-1, 3), repeat=many)]


def plain_apart(row, other, far):
    """The nearest place at which two rows ink unlike lots, as far as told."""
    for place in near_first(far):
        if plain_ink([place], row) != plain_ink([place], other):
            return place
    return None


class Lots(unittest.TestCase):
    def test_lots_against_folding(self):
        rng = made(73)
        for _ in range(300):
            lot = tuple(sorted(rng.sample(range(-20, 21), rng.randint(0, 8))))
            row = made_folds(rng, 6, 25)
            self.assertEqual(inked_by(lot, row), plain_ink(lot, row))

    def test_edges(self):
        whole = tuple(range(256))
        for lot in ((), (0,), (-10 ** 5,), (10 ** 5,), (-10 ** 5, 10 ** 5), whole):
            self.assertEqual(inked_by(lot, ()), lot)
        self.assertEqual(inked_by((), (5,) * 12), ())
        self.assertEqual(inked_by((3,), (6,) * 12), (3,))
        self.assertEqual(inked_by((10 ** 5,), (-10 ** 6,)), (-11 * 10 ** 5, 10 ** 5))
        self.assertEqual(inked_by((-10 ** 5,), (10 ** 6,)), (-10 ** 5, 11 * 10 ** 5))
        self.assertEqual(inked_by(whole, (255,) * 12), whole)
        self.assertEqual(len(inked_by((0,), tuple(3 ** k for k in range(12)))), 4096)

    def test_limit_of_places(self):
        whole = tuple(range(250))
        doubling = (499, 999, 1999, 3999, 7999)
        self.assertEqual(inked_by(whole, doubling), tuple(range(8000)))
        self.assertEqual(inked_by(whole, doubling + (9999,)), tuple(range(10000)))
        self.assertEqual(len(inked_by(whole, doubling + (9999,) * 7)), 10000)
        for row in (doubling + (10000,), doubling + (10000, 10000), doubling + (12000, 5)):
            with self.assertRaises(TooMany) as caught:
                inked_by(whole, row)
            self.assertEqual(caught.exception.limit, 10000)


class Sums(unittest.TestCase):
    def test_sums_by_all_signs(self):
        rng = made(74)
        for _ in range(200):
            row = made_folds(rng, 7, 8, 1)
            ways = [b - a for a, b in zip(row, row[1:])]
            sums = {sum(sign * way for sign, way in zip(signs, ways))
                    for signs in product((-1, 1), repeat=len(ways))}
            self.assertEqual(sums_by(row), tuple(sorted(sums)))

    def test_edges(self):
        top = 10 ** 6
        self.assertEqual(sums_by(()), ())
        for row in ((0,), (5,), (7,) * 12):
            self.assertEqual(sums_by(row), (0,))
        self.assertEqual(sums_by((top, -top)), (-2 * top, 2 * top))
        self.assertEqual(sums_by((top, -top) * 6)[-1], 22 * top)
        self.assertEqual(len(sums_by(row_by(0, [3 ** k for k in range(11)]))), 2 ** 11)


class AlikeRows(unittest.TestCase):
    def test_all_small_rows(self):
        inks = {row: tuple(plain_ink([place], row) for place in NEAR) for row in SMALL_ROWS}
        for row in SMALL_ROWS:
            for other in SMALL_ROWS:
                apart = [place for place, a, b in zip(NEAR, inks[row], inks[other]) if a != b]
                self.assertIs(alike_by_places(row, other), not apart)
                self.assertEqual(place_apart_in_ink(row, other), apart[0] if apart else None)

    def test_alike_rows_of_unlike_steps(self):
        rng = made(75)
        for ways, others in (((1, 1, 1), (1, 2)), ((2, 2, 2), (2, 4)), ((1, 1, 1, 1), (1, 1, 2)), ((0, 3), (3,)),
                             ((1, 2, 2), (1, 1, 3)), ((5, 5, 5), (10, 5, 0)), ((1, 1, 1, 4), (1, 2, 4))):
            row, other = row_by(2, ways), row_by(2, others)
            self.assertIs(alike_by_places(row, other), True)
            self.assertIsNone(place_apart_in_ink(row, other))
            for _ in range(20):
                lot = tuple(sorted(rng.sample(range(-20, 21), rng.randint(0, 6))))
                ahead, behind = made_folds(rng, 2, 9), made_folds(rng, 2, 9)
                self.assertEqual(inked_by(lot, ahead + row + behind), plain_ink(lot, ahead + other + behind))
            for further in (1, 3, -5):
                self.assertIs(alike_by_places(row, other + (further,)), False)
                self.assertIs(alike_by_places((further,) + row, other), False)

    def test_made_rows(self):
        rng = made(76)
        for _ in range(300):
            row = made_folds(rng, 8, 3)
            other = row_by(row[0], [rng.choice((-1, 1)) * (b - a) for a, b in zip(row, row[1:])]) if row else ()
            other = rng.choice((other, made_folds(rng, 8, 3), row[:1] + made_folds(rng, 6, 3) + row[-1:]))[:8]
            apart = plain_apart(row, other, 40)
            self.assertEqual(place_apart_in_ink(row, other), apart)
            self.assertIs(alike_by_places(row, other), apart is None)

    def test_places_far_apart(self):
        # Both ink all places of the same stretch, at one side of their first creases, as long as these are near.
        ways, others = (1, 2, 4, 8, 16, 32, 62), (1, -2, 4, 8, 16, 32, 64)
        for first in (-200, -127, -64, -63, -62, -61, -20, 0, 50):
            row, other = row_by(first, ways), row_by(first + 2, others)
            self.assertEqual(row[-1], other[-1])
            apart = place_apart_in_ink(row, other)
            self.assertEqual(apart, plain_apart(row, other, 60))
            mirrored = place_apart_in_ink(tuple(-h for h in row), tuple(-h for h in other))
            self.assertEqual(mirrored, plain_apart(tuple(-h for h in row), tuple(-h for h in other), 60))
            if first == -62:
                self.assertEqual((apart, mirrored), (-31, 31))

    def test_like_ink_of_some_first_ways(self):
        rng = made(77)
        for _ in range(300):
            ways = [rng.choice((1, 1, 2, 2, 3, 4, 8, 16)) for _ in range(rng.randint(1, 6))]
            others = [rng.choice((1, 1, 2, 2, 3, 4, 8, 16)) for _ in range(rng.randint(1, 6))]
            first = rng.randint(-40, 40)
            row, other = row_by(first, ways), row_by(first + rng.choice((0, sum(others) - sum(ways))), others)
            other = other + (row[-1],)
            self.assertEqual(place_apart_in_ink(row, other), plain_apart(row, other, 80))

    def test_no_folds(self):
        self.assertIs(alike_by_places((), ()), True)
        self.assertIsNone(place_apart_in_ink((), ()))
        for row in ((0,), (1,), (0, 0), (3, 5)):
            self.assertIs(alike_by_places((), row), False)
            self.assertIs(alike_by_places(row, ()), False)
        self.assertEqual(place_apart_in_ink((), (0,)), 1)
        self.assertEqual(place_apart_in_ink((0, 0, 0), ()), 1)
        self.assertEqual(place_apart_in_ink((2,), ()), 0)

    def test_creases_at_their_limits(self):
        top = 10 ** 6
        self.assertEqual(place_apart_in_ink((top,), (-top,)), 0)
        self.assertEqual(place_apart_in_ink((top, -top), (-top, top)), 0)
        self.assertIsNone(place_apart_in_ink((top, -top, top), (top, -top, -top, top)))
        self.assertEqual(place_apart_in_ink((0, top, 0), (0, -top, 0)), None)
        self.assertEqual(place_apart_in_ink((-top, top), (-top, 0, top)), 1)

    def test_twelve_folds_and_short_rows(self):
        row = tuple(range(12))
        self.assertIs(alike_by_places(row, row_by(0, (1, 2, 4, 4))), True)
        self.assertIs(alike_by_places(row, row_by(0, (1, 2, 4, 3))), False)
        eight, nine = tuple(range(8)), tuple(range(9))
        self.assertIsNone(place_apart_in_ink(eight, row_by(0, (1, 2, 4))))
        for pair in ((nine, eight), (eight, nine), (nine, nine), (nine, ())):
            with self.assertRaises(TooMany) as caught:
                place_apart_in_ink(*pair)
            self.assertEqual(caught.exception.limit, 8)
        self.assertIs(alike_by_places(nine, row_by(0, (1, 2, 4, 1))), True)
        self.assertEqual(inked_by((FAR // 10 ** 4,), ()), (10 ** 5,))


if __name__ == "__main__":
    unittest.main()
