"""wetfolds.likeprints: strips that a row brings to one, against folding all strips that can come there."""

import unittest
from itertools import combinations_with_replacement, product

from tests.support import (
    FAR, HUGE, drops_of, long_strip, made, made_folds, made_strip, near_first, plainly_folded, strip_of,
)
from wetfolds.errors import TooMany
from wetfolds.folding import folded_by
from wetfolds.likeprints import come_to_one, count_like, first_unlike

ROWS = [row for many in range(4) for row in product(range(-2, 3), repeat=many)]
DOUBLING = (399, 799, 1599, 3199, 6399)


def plain_unlike(strip, other):
    """The first place, nearest first, at which two strips are unlike."""
    here, there = dict(strip), dict(other)
    places = [x for x in set(here) | set(there) if here.get(x) != there.get(x)]
    return min(places, key=near_first(max(map(abs, places))).index) if places else None


class LikePrints(unittest.TestCase):
    def test_all_pairs_of_small_strips(self):
        strips = [strip_of(places) for many in range(3) for places in combinations_with_replacement(range(-2, 3), many)]
        for row in [row for row in ROWS if len(row) < 3]:
            came = {strip: plainly_folded(strip, row) for strip in strips}
            for strip in strips:
                for other in strips:
                    self.assertEqual(come_to_one(strip, other, row), came[strip] == came[other])

    def test_first_unlike_places(self):
        rng = made(55)
        for _ in range(600):
            strip, other = made_strip(rng, 3, 4, 2), made_strip(rng, 3, 4, 2)
            row = made_folds(rng, 4, 6)
            if rng.randrange(3) == 0 and row:
                other = strip_of([rng.choice((x, row[0] - x)) for x in drops_of(strip)])
            unlike = plain_unlike(plainly_folded(strip, row), plainly_folded(other, row))
            self.assertEqual(first_unlike(strip, other, row), unlike)
            self.assertEqual(come_to_one(strip, other, row), unlike is None)

    def test_how_many_are_like(self):
        rng = made(56)
        for _ in range(400):
            strip, row = made_strip(rng, 3, 3, 2), rng.choice(ROWS)
            came = plainly_folded(strip, row)
            total = len(drops_of(strip))
            places = [x for x, _ in came]
            if len(places) ** total <= 20000:
                like = [others for others in combinations_with_replacement(places, total)
                        if plainly_folded(strip_of(others), row) == came]
                self.assertEqual(count_like(strip, row), len(like))

    def test_no_folds_and_no_pairs(self):
        a, b = ((0, 1), (3, 2)), ((-FAR, 1), (FAR, HUGE))
        self.assertIs(come_to_one(a, a, ()), True)
        self.assertIs(come_to_one(a, b, ()), False)
        self.assertIs(come_to_one((), (), (0, 5)), True)
        self.assertIs(come_to_one((), a, (0, 5)), False)
        self.assertIsNone(first_unlike(a, a, ()))
        self.assertEqual(first_unlike(a, b, ()), 0)
        self.assertEqual(first_unlike(b, ((-FAR, 1),), ()), FAR)
        self.assertEqual(first_unlike(b, ((FAR, HUGE),), ()), -FAR)
        self.assertEqual(first_unlike((), ((-2, 1), (2, 1)), ()), 2)
        self.assertIsNone(first_unlike((), (), (1, 2)))
        self.assertEqual(count_like((), ()), 1)
        self.assertEqual(count_like((), (3,)), 1)
        self.assertEqual(count_like(b, ()), 1)

    def test_drops_on_the_crease_and_beside(self):
        self.assertEqual(count_like(((3, 5),), (6,)), 1)
        self.assertEqual(count_like(((3, 5), (4, 2)), (6, 1, 1)), 3)
        self.assertEqual(count_like(((2, 1), (3, 5), (4, 2)), (6,)), 4)
        self.assertIs(come_to_one(((2, 1), (3, 5), (4, 2)), ((2, 3), (3, 5)), (6, 2)), True)
        self.assertIs(come_to_one(((2, 1), (3, 5), (4, 2)), ((2, 3), (3, 4)), (6, 2)), False)
        self.assertEqual(first_unlike(((2, 1), (3, 5)), ((2, 1), (3, 4)), (6,)), 3)

    def test_many_drops_in_many_pairs(self):
        strip = tuple((x, HUGE) for x in range(-100, 100))
        self.assertEqual(count_like(strip, (-1,)), (2 * HUGE + 1) ** 100)
        self.assertEqual(count_like(strip, (10 ** 6, 0, 5)), (HUGE + 1) ** 200)
        self.assertEqual(count_like(strip, (-(10 ** 6), 0, 5)), (HUGE + 1) ** 200)
        self.assertEqual(count_like(strip, (1,) * 12), count_like(strip, (1,)))

    def test_twelve_folds(self):
        rng = made(57)
        for _ in range(20):
            row = made_folds(rng, 12, 12, 12)
            strip = made_strip(rng, 3, 10, 2)
            other = tuple(sorted((row[0] - x, drops) for x, drops in strip))
            self.assertIs(come_to_one(strip, other, row), True)
            self.assertIsNone(first_unlike(strip, other, row))
            self.assertIs(come_to_one(strip, other + ((99, 1),), row), False)
            self.assertIsNotNone(first_unlike(strip, other + ((99, 1),), row))

    def test_limit_of_pairs(self):
        strip = long_strip(200)
        self.assertEqual(len(folded_by(strip, DOUBLING + (9999,))), 10000)
        other = strip[:-1] + ((199, 2),)
        self.assertIsNone(first_unlike(strip, strip, DOUBLING + (9999,)))
        self.assertEqual(first_unlike(strip, other, DOUBLING + (9999,)), 199)
        self.assertEqual(first_unlike(strip, (), DOUBLING + (9999, 9999)), 0)
        for row in (DOUBLING + (10000,), DOUBLING + (10000, 10000), DOUBLING + (12000, 5)):
            for pair in ((strip, strip), (strip, ()), ((), strip), (strip, other), (other, ((0, 1),))):
                with self.assertRaises(TooMany) as caught:
                    first_unlike(*pair, row)
                self.assertEqual(caught.exception.limit, 10000)

    def test_only_first_unlike_has_a_limit(self):
        strip = tuple((x * 10 ** 6, 1) for x in range(200))
        row = tuple(3 ** k for k in range(12))
        self.assertIs(come_to_one(strip, strip, row), True)
        self.assertIs(come_to_one(strip, strip[1:], row), False)
        self.assertEqual(count_like(strip, row), 2 ** 200)


if __name__ == "__main__":
    unittest.main()
