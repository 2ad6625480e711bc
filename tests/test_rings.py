"""wetfolds.rings: ring drops folded, against folding place by place."""

import unittest
from itertools import product

from tests.support import FAR, HUGE, drops_of, long_strip, made, made_folds, made_strip, plain_fold
from wetfolds.alikerows import rows_alike
from wetfolds.rings import are_ring_drops, closed_up, cut_open, ring_folded, ring_print


def plain_ring(size, drops, row):
    """Ring drops folded one drop after the other."""
    places = [place for place, many in enumerate(drops) for _ in range(many)]
    for h in row:
        places = places + [(h - x) % size for x in places]
    return tuple(places.count(place) for place in range(size))


class Rings(unittest.TestCase):
    def test_folded_place_by_place(self):
        rng = made(88)
        for size in list(range(1, 13)) * 15:
            drops = tuple(rng.randint(0, 3) for _ in range(size))
            row = made_folds(rng, 5, 30)
            self.assertEqual(ring_folded(size, drops, row), plain_ring(size, drops, row))

    def test_prints(self):
        rng = made(89)
        for size in list(range(1, 10)) + [31, 32, 63, 64]:
            for _ in range(20):
                spot, row = rng.randrange(size), made_folds(rng, 6, 100)
                alone = tuple(int(place == spot) for place in range(size))
                self.assertEqual(ring_print(size, spot, row), plain_ring(size, alone, row))
                strip = plain_fold([spot + size * rng.randint(-3, 3)], row)
                self.assertEqual(ring_print(size, spot, row), tuple(
                    sum(x % size == place for x in strip) for place in range(size)))

    def test_alike_on_all_rings_just_if_they_do_the_same_to_all_strips(self):
        rows = [row for many in range(4) for row in product(range(-1, 2), repeat=many)]
        prints = {row: [[ring_print(size, spot, row) for spot in range(size)] for size in range(1, 21)] for row in rows}
        for row in rows:
            for other in rows:
                alike = [here == there for here, there in zip(prints[row], prints[other])]
                self.assertEqual(all(alike), rows_alike(row, other))
                # Rows that are not alike are so on finitely many rings: with these creases, on small ones.
                self.assertIs(any(alike[12:]), rows_alike(row, other))

    def test_one_place(self):
        for many in range(13):
            self.assertEqual(ring_print(1, 0, (5,) * many), (2 ** many,))
            self.assertEqual(ring_folded(1, (FAR,), (-3,) * many), (FAR * 2 ** many,))
        self.assertEqual(cut_open(1, (0,)), ())
        self.assertEqual(cut_open(1, (7,)), ((0, 7),))
        self.assertEqual(closed_up(1, ((-5, 2), (0, 3), (8, 4))), (9,))

    def test_creases_that_are_one(self):
        rng = made(90)
        for _ in range(100):
            size = rng.randint(1, 64)
            drops = tuple(rng.randint(0, FAR) for _ in range(size))
            row = made_folds(rng, 6, 50)
            others = tuple(h + size * rng.randint(-9, 9) for h in row)
            self.assertEqual(ring_folded(size, drops, row), ring_folded(size, drops, others))

    def test_drops_that_lie_on_themselves(self):
        self.assertEqual(ring_folded(4, (1, 1, 1, 1), (0,)), (2, 2, 2, 2))
        self.assertEqual(ring_print(4, 0, (0,)), (2, 0, 0, 0))
        self.assertEqual(ring_print(4, 2, (0,)), (0, 0, 2, 0))
        self.assertEqual(ring_print(4, 0, (1,)), (1, 1, 0, 0))
        self.assertEqual(ring_print(5, 3, (1,)), (0, 0, 0, 2, 0))
        self.assertEqual(ring_print(64, 63, (62,) * 12), (0,) * 63 + (4096,))

    def test_greatest_sizes_and_drops(self):
        drops = tuple(FAR - x for x in range(64))
        self.assertEqual(ring_folded(64, drops, ()), drops)
        twelve = ring_folded(64, drops, tuple(range(12)))
        self.assertEqual(sum(twelve), 4096 * sum(drops))
        self.assertEqual(ring_folded(64, drops, (10 ** 6, -10 ** 6)), plain_far(drops, (10 ** 6, -10 ** 6)))

    def test_cut_open_and_closed_up(self):
        rng = made(91)
        for _ in range(200):
            size = rng.randint(1, 64)
            drops = tuple(rng.choice((0, 0, 1, 5, FAR)) for _ in range(size))
            strip = cut_open(size, drops)
            self.assertEqual(strip, tuple((x, drops[x]) for x in range(size) if drops[x]))
            self.assertEqual(closed_up(size, strip), drops)
            strip = made_strip(rng, 8, 90, 3)
            rests = [x % size for x in drops_of(strip)]
            self.assertEqual(closed_up(size, strip), tuple(rests.count(place) for place in range(size)))
        self.assertEqual(closed_up(3, ()), (0, 0, 0))
        self.assertEqual(closed_up(7, ((-FAR, HUGE), (FAR, 1))), (0, HUGE, 0, 0, 0, 0, 1))
        self.assertEqual((-FAR % 7, FAR % 7), (1, 6))
        self.assertEqual(closed_up(64, long_strip(200)), (4,) * 8 + (3,) * 56)

    def test_what_ring_drops_are(self):
        self.assertIs(are_ring_drops(2, (0, 0)), True)
        self.assertIs(are_ring_drops(2, (FAR, 0)), True)
        self.assertIs(are_ring_drops(2, (FAR + 1, 0)), False)
        self.assertIs(are_ring_drops(2, (0, -1)), False)
        self.assertIs(are_ring_drops(2, (0, True)), False)
        self.assertIs(are_ring_drops(2, [0, 0]), False)
        self.assertIs(are_ring_drops(2, (0,)), False)
        self.assertIs(are_ring_drops(1, ()), False)
        self.assertIs(are_ring_drops(64, (0,) * 64), True)
        self.assertIs(are_ring_drops(64, (0,) * 65), False)


def plain_far(drops, row):
    """Ring drops of the size 64 folded, with many drops."""
    for h in row:
        drops = tuple(drops[x] + drops[(h - x) % 64] for x in range(64))
    return drops


if __name__ == "__main__":
    unittest.main()
