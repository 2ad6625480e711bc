"""wetfolds.stepbacks: rows with told steps, against folding all small strips by all small rows."""

import unittest
from itertools import combinations_with_replacement

from tests.support import HUGE, long_strip, made, plainly_folded, strip_of
from wetfolds.folding import folded_by
from wetfolds.stepbacks import count_step_rows, first_creases, last_crease, last_steps, rest_by

FAR = 4
MOST_DROPS = 2
MOST_FOLDS = 3
TOLD = [steps for many in range(MOST_FOLDS) for steps in combinations_with_replacement(range(2 * FAR + 2), many)]


def steps_of(row):
    return tuple(sorted(abs(a - b) for a, b in zip(row, row[1:])))


def all_rows():
    """A dict that tells of each strip within FAR the set of all rows by which it came of at most so many drops."""
    found = {}
    now = []
    for many in range(1, MOST_DROPS + 1):
        for places in combinations_with_replacement(range(-FAR, FAR + 1), many):
            now.append((strip_of(places), ()))
    for _ in range(MOST_FOLDS):
        further = []
        for strip, row in now:
            # A strip that has come stays, so that all beginnings lie within, too.
            for h in range(-2 * FAR, 2 * FAR + 1):
                if -FAR <= h - strip[-1][0] and h - strip[0][0] <= FAR:
                    came = plainly_folded(strip, (h,))
                    found.setdefault(came, set()).add(row + (h,))
                    further.append((came, row + (h,)))
        now = further
    return found


def composed(rest, steps):
    """The strip of a rest, laid together with itself moved by each step in turn, drop by drop."""
    drops = [x for x, many in rest for _ in range(many)]
    for step in steps:
        drops = drops + [x + step for x in drops]
    return strip_of(drops)


def total(strip):
    return sum(drops for _, drops in strip)


class StepBacks(unittest.TestCase):
    @classmethod
    def setUpClass(cls):
        cls.rows = all_rows()

    def check(self, strip):
        rows = self.rows.get(strip, set())
        many = total(strip)
        for steps in TOLD:
            folds = len(steps) + 1
            # More drops than these could have come of more than all_rows has tried.
            if many <= MOST_DROPS * 2 ** folds:
                fitting = [row for row in rows if len(row) == folds and steps_of(row) == steps]
                self.assertEqual(count_step_rows(strip, steps), len(fitting), (strip, steps))
                self.assertEqual(first_creases(strip, steps), tuple(sorted({row[0] for row in fitting})))
        if many <= MOST_DROPS * 2:
            last = [row[0] for row in rows if len(row) == 1]
            self.assertLess(len(last), 2)
            self.assertEqual(last_crease(strip), last[0] if last else None)
        if many <= MOST_DROPS * 4:
            self.assertEqual(last_steps(strip), tuple(sorted({steps_of(row)[0] for row in rows if len(row) == 2})))

    def test_strips_that_came_by_rows(self):
        rng = made(58)
        strips = sorted(self.rows)
        self.assertGreater(len(strips), 400)
        for strip in strips:
            self.check(strip)

    def test_other_strips(self):
        rng = made(59)
        for most in (1, 2, 4):
            for _ in range(150):
                places = sorted(rng.sample(range(-FAR, FAR + 1), rng.randint(1, 5)))
                self.check(tuple((place, rng.randint(1, most)) for place in places))

    def test_strips_alike_on_both_sides(self):
        rng = made(60)
        for _ in range(300):
            half = {rng.randint(0, FAR): rng.randint(1, 3) for _ in range(rng.randint(1, 3))}
            self.check(tuple(sorted({**half, **{-x: many for x, many in half.items()}}.items())))

    def test_rests(self):
        rests = [strip_of((0,) + places) for many in range(3)
                 for places in combinations_with_replacement(range(FAR + 1), many)]
        came = {(composed(rest, steps), steps): rest for rest in rests for steps in TOLD}
        for (strip, steps), rest in came.items():
            self.assertEqual(rest_by(strip, steps), rest)
        rng = made(61)
        strips = sorted({strip for strip, _ in came if total(strip) <= 12})
        done = 0
        for _ in range(4000):
            strip, steps = rng.choice(strips), rng.choice(TOLD)
            # The rests that were tried have three drops at most.
            if total(strip) <= 3 * 2 ** len(steps) and strip[-1][0] <= FAR + sum(steps):
                self.assertEqual(rest_by(strip, steps), came.get((strip, steps)))
                done += (strip, steps) not in came
        self.assertGreater(done, 500)

    def test_no_steps(self):
        strip = ((-1, 2), (3, 5))
        self.assertEqual(rest_by(strip, ()), strip)
        self.assertEqual(first_creases(strip, ()), ())
        self.assertEqual(count_step_rows(strip, ()), 0)
        self.assertEqual(first_creases(((-1, 2), (3, 2)), ()), (2,))
        self.assertEqual(count_step_rows(((-1, 2), (3, 2)), ()), 1)
        self.assertEqual(first_creases(((7, 3),), ()), ())
        self.assertEqual(first_creases(((7, 4),), ()), (14,))
        self.assertEqual(last_crease(((7, 4),)), 14)
        self.assertIsNone(last_crease(((7, 3),)))
        self.assertIsNone(last_crease(strip))

    def test_steps_of_0(self):
        strip = ((-1, 8), (2, 8))
        for many in range(12):
            steps = (0,) * many
            rest = ((-1, 8 >> many), (2, 8 >> many)) if many < 4 else None
            self.assertEqual(rest_by(strip, steps), rest)
            self.assertEqual(first_creases(strip, steps), (1,) if many < 4 else ())
            self.assertEqual(count_step_rows(strip, steps), 1 if many < 4 else 0)
        self.assertEqual(last_steps(strip), (0, 3))
        self.assertEqual(last_steps(((-1, 1), (2, 2), (5, 1))), (3,))
        self.assertEqual(last_steps(((-1, 2), (2, 2), (5, 2))), ())
        self.assertEqual(last_steps(((-1, 4), (2, 4), (5, 4))), (0,))
        self.assertEqual(last_steps(((7, 4),)), (0,))
        self.assertEqual(last_steps(((7, 2),)), ())
        self.assertEqual(first_creases(((7, HUGE * 2 ** 12),), (0,) * 11), (14,))

    def test_eleven_steps(self):
        rng = made(62)
        for steps in ((0,) * 11, (1,) * 11, (0,) * 6 + (1, 2, 2, 3, 5), tuple(range(11)), (0,) * 10 + (9000,)):
            row = [rng.randint(-9, 9)]
            for step in rng.sample(steps, 11):
                row.append(row[-1] + rng.choice((step, -step)))
            strip = folded_by(((row[0] // 2 + 1, 3),), tuple(row))
            self.assertLessEqual(len(strip), 200)
            first = first_creases(strip, steps)
            self.assertIn(row[0], first)
            sums = {0}
            for step in steps:
                sums = {x + way for x in sums for way in (-step, step)}
            self.assertEqual(first, tuple(sorted(row[-1] + way for way in sums)))
            orders = 1
            for k in range(11):
                orders = orders * (k + 1) // steps[:k + 1].count(steps[k])
            self.assertEqual(count_step_rows(strip, steps), orders * 2 ** (11 - steps.count(0)))
            self.assertEqual(composed(rest_by(strip, steps), steps), strip)
            self.assertIsNone(rest_by(strip, steps[:-1] + (10 ** 6,)))
            self.assertEqual(first_creases(strip, steps[:-1] + (10 ** 6,)), ())
            self.assertEqual(count_step_rows(strip, steps[:-1] + (10 ** 6,)), 0)

    def test_places_at_their_limits(self):
        strip = ((-100000, 1), (100000, 1))
        self.assertEqual(last_crease(strip), 0)
        self.assertEqual(last_steps(strip), ())
        self.assertEqual(first_creases(strip, (200000,)), ())
        double = ((-100000, 2), (100000, 2))
        self.assertEqual(last_steps(double), (0, 200000))
        self.assertEqual(first_creases(double, (200000,)), (-200000, 200000))
        self.assertEqual(rest_by(double, (200000,)), ((-100000, 2),))
        self.assertEqual(count_step_rows(double, (200000,)), 2)
        self.assertEqual(rest_by(double, (0, 200000)), ((-100000, 1),))
        self.assertEqual(count_step_rows(double, (0, 200000)), 0)
        for place in (100000, -100000):
            self.assertEqual(first_creases(((place, 2),), ()), (2 * place,))
            self.assertEqual(last_crease(((place, 2),)), 2 * place)
            self.assertIsNone(rest_by(((place, 2),), (10 ** 6,)))

    def test_two_hundred_pairs(self):
        strip = long_strip(200)
        self.assertEqual(last_crease(strip), 199)
        steps = tuple(step for step in range(1, 200) if 200 % (2 * step) == 0)
        # Where nothing lies twice, a rest and the same moved take turns.
        self.assertEqual(last_steps(strip), steps)
        self.assertEqual(first_creases(strip, (100,)), (99, 299))
        self.assertEqual(rest_by(strip, (50, 100)), long_strip(50))
        self.assertEqual(count_step_rows(strip, (50, 100)), 8)
        self.assertEqual(first_creases(strip, (50, 100)), (49, 149, 249, 349))


if __name__ == "__main__":
    unittest.main()
