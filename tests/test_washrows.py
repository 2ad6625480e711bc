"""wetfolds.washrows: the shortest rows alike modulo primes, against going through all short rows."""

import unittest
from itertools import product

from tests.support import PRIMES, made, made_folds, plain_wash, row_by
from wetfolds.washforms import wash_alike
from wetfolds.washrows import fewest_wash, short_wash

NEAR = (0, 1, -1)


def prints_of(row, prime):
    return tuple(plain_wash(place, row, prime) for place in NEAR)


class WashRows(unittest.TestCase):
    def check(self, row, prime):
        """What holds for each shortest row but that none is shorter."""
        short = short_wash(row, prime)
        self.assertIsInstance(short, tuple)
        self.assertTrue(all(type(h) is int for h in short))
        self.assertEqual(len(short), fewest_wash(row, prime))
        self.assertLessEqual(len(short), len(row))
        self.assertEqual(prints_of(short, prime), prints_of(row, prime))

    def test_against_all_short_rows(self):
        # A row alike to one of four folds with creases from 0 to 2 goes no farther than its steps lead.
        for prime in PRIMES:
            shortest = {}
            for many in range(4):
                for row in product(range(-6, 9), repeat=many):
                    shortest.setdefault(prints_of(row, prime), many)
            for many in range(5):
                for row in product(range(3), repeat=many):
                    self.assertEqual(fewest_wash(row, prime), shortest.get(prints_of(row, prime), 4), (row, prime))
                    self.check(row, prime)

    def test_made_rows(self):
        rng = made(71)
        for prime in PRIMES:
            for _ in range(150):
                self.check(made_folds(rng, 12, rng.choice((1, 2, 4, 9))), prime)

    def test_rows_without_folds(self):
        for prime in PRIMES:
            self.assertEqual(fewest_wash((), prime), 0)
            self.assertEqual(short_wash((), prime), ())
            for h in (0, 5, 10 ** 6, -10 ** 6):
                self.assertEqual(fewest_wash((h,), prime), 1)
                self.assertEqual(short_wash((h,), prime), (h,))

    def test_steps_of_0(self):
        for many in range(1, 13):
            row = (4,) * many
            self.assertEqual(fewest_wash(row, 2), min(many, 2))
            self.assertEqual(fewest_wash(row, 3), 1 + (many - 1) % 2)
            self.assertEqual(fewest_wash(row, 5), 1 + (many - 1) % 4)
            self.assertEqual(fewest_wash(row, 7), 1 + (many - 1) % 3)
            for prime in PRIMES:
                self.check(row, prime)
        for row in ((1, 9, 9), (1, 1, 9), tuple(range(11)) + (10,) * 1, (5,) * 12, (2, 4, 4, 8, 16)):
            self.assertEqual(fewest_wash(row, 2), 2 if any(a == b for a, b in zip(row, row[1:])) else 4)
            self.check(row, 2)
        self.assertEqual(fewest_wash((0, 0, 0, 3, 3, 3, 6, 9), 3), 2)

    def test_joined_steps_that_lead_to_the_last_crease(self):
        self.assertEqual(fewest_wash(tuple(range(12)), 2), 4)
        self.assertEqual(fewest_wash(tuple(range(9)), 2), 2)
        self.assertEqual(short_wash(tuple(range(9)), 2), (0, 8))
        self.assertEqual(short_wash(tuple(range(10)), 3), (0, 9))
        self.assertEqual(short_wash((0, 5, 10, 15, 20, 25), 5), (0, 25))
        self.assertEqual(short_wash(tuple(range(7, -1, -1)), 7), (7, 0))

    def test_joined_steps_that_lead_elsewhere(self):
        self.assertEqual(fewest_wash((0, 1, 0), 2), 3)
        self.assertEqual(fewest_wash((0, 1, 0, 1, 0), 2), 3)
        self.assertEqual(fewest_wash((0, 1, 0, 1, 2), 2), 4)
        self.assertEqual(fewest_wash((0, 1, 0, 1), 3), 4)
        self.assertEqual(fewest_wash((0, 1, 2, 3), 3), 2)
        # 1, 2 and 8 make 9 if 1 is taken away.
        self.assertEqual(fewest_wash(tuple(range(11)) + (9,), 2), 4)
        # (1, 2, 8) makes no 1, but (1, 2, 4, 4) does.
        self.assertEqual(fewest_wash((0, 1) * 6, 2), 5)

    def test_least_numbers_by_parting_all_ways(self):
        rng = made(72)
        for _ in range(60):
            prime = rng.choice((2, 2, 3))
            ways = [rng.choice((1, 2, 3, 4, 6)) * rng.choice((-1, 1)) for _ in range(rng.randint(1, 7))]
            row = row_by(rng.randint(-3, 3), ways)
            self.assertEqual(fewest_wash(row, prime), 1 + self.plain_fewest(ways, prime), (row, prime))

    def plain_fewest(self, ways, prime):
        """The fewest steps by joining and parting, in each order, as long as nothing new comes."""
        goal = sum(ways)
        seen = {tuple(sorted(map(abs, ways)))}
        waiting = list(seen)
        while waiting:
            steps = waiting.pop()
            for step in set(steps):
                left = list(steps)
                left.remove(step)
                others = []
                if step % prime == 0 and len(steps) + prime - 1 <= len(ways):
                    others.append(left + [step // prime] * prime)
                if steps.count(step) >= prime:
                    for _ in range(prime - 1):
                        left.remove(step)
                    others.append(left + [step * prime])
                for other in others:
                    if tuple(sorted(other)) not in seen:
                        seen.add(tuple(sorted(other)))
                        waiting.append(tuple(sorted(other)))
        leads = [steps for steps in seen
                 if any(sum(sign * step for sign, step in zip(signs, steps)) == goal
                        for signs in product((-1, 1), repeat=len(steps)))]
        return min(map(len, leads))

    def test_great_steps(self):
        top = 10 ** 6
        row = (top, -top) * 6
        short = short_wash(row, 2)
        self.assertEqual(len(short), fewest_wash(row, 2))
        self.assertIs(wash_alike(row, row, 2), True)
        self.assertEqual((short[0], short[-1]), (top, -top))
        self.assertEqual(short_wash((-top, 0, top), 2), (-top, top))
        # The creases of such a tuple may be greater than those of rows.
        wide = short_wash((0, top, 0, top, 0, top, 2), 2)
        self.assertEqual(len(wide), fewest_wash((0, top, 0, top, 0, top, 2), 2))
        self.assertEqual((wide[0], wide[-1]), (0, 2))


if __name__ == "__main__":
    unittest.main()
