"""wetfolds.ranks: tables, ranks and two strips of which one comes, against walks and fractions."""

import unittest
from fractions import Fraction
from itertools import product

from tests.support import drops_of, made, made_folds, plain_ended
from wetfolds.ends import ended_strip
from wetfolds.ranks import ended_table, rank_on, two_to_one
from wetfolds.strips import is_strip

SMALL = [row for many in range(4) for row in product(range(-1, 5), repeat=many)]


def plain_table(row, length):
    """The table place by place, walk by walk."""
    rows = []
    for place in range(length):
        drops = plain_ended([place], row, length)
        rows.append(tuple(drops.count(there) for there in range(length)))
    return tuple(rows)


def plain_rank(table):
    """The rank over the fractions of whole numbers."""
    rows = [[Fraction(number) for number in row] for row in table]
    rank = 0
    for at in range(len(table)):
        with_one = [row for row in rows if row[at] != 0]
        if with_one:
            rank += 1
            chosen = with_one[0]
            rest = []
            for row in rows:
                if row is not chosen:
                    ratio = row[at] / chosen[at]
                    rest.append([a - ratio * b for a, b in zip(row, chosen)])
            rows = rest
    return rank


class Ranks(unittest.TestCase):
    def check(self, row, length):
        table = plain_table(row, length)
        self.assertEqual(ended_table(row, length), table)
        rank = plain_rank(table)
        self.assertEqual(rank_on(row, length), rank, (row, length))
        self.check_two(row, length, rank)
        return rank

    def check_two(self, row, length, rank):
        two = two_to_one(row, length)
        self.assertEqual(two is None, rank == length)
        if two is not None:
            self.assertIsInstance(two, tuple)
            one, other = two
            self.assertNotEqual(one, other)
            for strip in two:
                self.assertIs(is_strip(strip), True)
                self.assertTrue(all(0 <= place < length and drops <= 10 ** 200 for place, drops in strip))
            came = [self.plainly_come(strip, row, length) for strip in two]
            self.assertEqual(came[0], came[1])
            self.assertEqual(ended_strip(one, row, length), ended_strip(other, row, length))

    def plainly_come(self, strip, row, length):
        """How many drops come to each place, by the plain table."""
        table = plain_table(row, length)
        return [sum(drops * table[place][there] for place, drops in strip) for there in range(length)]

    def test_all_small_rows(self):
        seen = set()
        for row in SMALL:
            for length in (0, 1, 2, 3, 5):
                seen.add((length, self.check(row, length)))
        self.assertTrue({(0, 0), (1, 1), (2, 1), (2, 2), (3, 2), (3, 3), (5, 3), (5, 4), (5, 5)} <= seen)

    def test_made_rows(self):
        rng = made(161)
        for _ in range(60):
            length = rng.randint(1, 24)
            self.check(made_folds(rng, 6, 30), length)
            self.check(tuple(rng.randint(0, 2 * length) for _ in range(rng.randint(0, 6))), length)

    def test_greatest_tables(self):
        rng = made(162)
        for _ in range(8):
            row = tuple(rng.randint(15, 31) for _ in range(8))
            self.assertLess(self.check(row, 24), 24)
        self.check((23,) * 8, 24)
        self.assertEqual(rank_on((23,) * 8, 24), 12)
        self.assertEqual(rank_on((60,) * 8, 24), 24)
        self.assertIsNone(two_to_one((60,) * 8, 24))

    def test_drops_are_few_enough(self):
        rng = made(163)
        for _ in range(150):
            row = tuple(rng.randint(0, 46) for _ in range(8))
            two = two_to_one(row, 24)
            if two is not None:
                self.assertLessEqual(max(drops for strip in two for _, drops in strip), 10 ** 200)
                came = [ended_strip(strip, row, 24) for strip in two]
                self.assertEqual(came[0], came[1])

    def test_no_folds_and_papers_without_places(self):
        for length in (0, 1, 2, 24):
            self.assertEqual(ended_table((), length), plain_table((), length))
            self.assertEqual(rank_on((), length), length)
            self.assertIsNone(two_to_one((), length))
        for row in SMALL[::9]:
            self.assertEqual(ended_table(row, 0), ())
            self.assertEqual(rank_on(row, 0), 0)
            self.assertIsNone(two_to_one(row, 0))

    def test_two_strips_are_folded_to_one(self):
        one, other = two_to_one((1,), 2)
        self.assertEqual({one, other}, {((0, 1),), ((1, 1),)})
        self.assertEqual(plain_ended(drops_of(one), (1,), 2).count(0), 1)


if __name__ == "__main__":
    unittest.main()
