"""wetfolds.endsalike: rows alike on papers with ends, against the ended prints of all places."""

import unittest
from itertools import product

from tests.support import made, made_folds, plain_ended_print
from wetfolds.alikerows import rows_alike
from wetfolds.endsalike import alike_at_all, alike_ended, telling_length, telling_place

SMALL = [row for many in range(3) for row in product(range(-1, 5), repeat=many)]
SOME = SMALL[::4] + [row for row in product((0, 1, 3, 4), repeat=3)][::5]


def plain_prints(row, length):
    """The ended prints of all places; without a right end, of all those that a fold at most 60 can move."""
    return [plain_ended_print(place, row, length) for place in range(62 if length is None else length)]


def plain_telling(here, there):
    """The least place at which two lists of prints differ."""
    return min([place for place in range(len(here)) if here[place] != there[place]], default=None)


def made_pair(rng, far):
    """Two rows, more often than not of one form."""
    row = made_folds(rng, 6, far)
    if rng.random() < 0.4:
        return row, made_folds(rng, 6, far)
    if rng.random() < 0.5 and len(row) > 1:
        turned = row[:1] + tuple(row[0] + row[-1] - h for h in row[1:-1][::-1]) + row[-1:]
        if all(abs(h) <= 60 for h in turned):
            return row, turned
    # Folds below the paper lay nothing on it.
    at = rng.randint(0, len(row))
    return row, row[:at] + (-rng.randint(1, 9),) + row[at:]


class AlikeOnPapers(unittest.TestCase):
    def check(self, row, other, length):
        place = plain_telling(plain_prints(row, length), plain_prints(other, length))
        self.assertEqual(telling_place(row, other, length), place, (row, other, length))
        self.assertIs(alike_ended(row, other, length), place is None)
        return place

    def test_all_small_rows(self):
        for length in (0, 1, 2, 3, 5, 6):
            prints = {row: plain_prints(row, length) for row in SMALL}
            for row in SMALL:
                for other in SMALL:
                    place = plain_telling(prints[row], prints[other])
                    self.assertEqual(telling_place(row, other, length), place)
                    self.assertIs(alike_ended(row, other, length), place is None)

    def test_made_rows(self):
        rng = made(131)
        alike = 0
        for _ in range(250):
            row, other = made_pair(rng, rng.choice((4, 12, 60)))
            alike += self.check(row, other, rng.choice((1, 4, 9, 20, 64, None))) is None
        self.assertGreater(alike, 50)

    def test_without_a_right_end(self):
        for row in SOME:
            for other in SOME[::3]:
                self.check(row, other, None)
        self.assertEqual(self.check((), (60,), None), 0)
        self.assertEqual(self.check((0, 60), (0, 60, 0), None), 0)
        self.assertEqual(self.check((), (0,), None), 0)
        self.assertEqual(self.check((60,), (60, -60), None), None)
        self.assertEqual(self.check((60, -60), (60, -1, -2), 64), None)

    def test_eight_folds_that_stay_on_the_paper(self):
        # All 256 drops on one place, and not one less.
        self.assertEqual(self.check((0,) * 8, (0,) * 7, 1), 0)
        self.assertEqual(self.check((0,) * 8, (0,) * 8, 64), None)
        self.assertEqual(self.check((60,) * 8, (60,) * 8, 64), None)
        self.assertEqual(self.check((60,) * 7 + (59,), (59,) + (60,) * 7, 64), 0)
        self.assertEqual(self.check((2,) * 8, (2,) * 7 + (0,), 2), 0)
        self.assertEqual(self.check((60,) * 8, (60,) * 7, 64), 0)
        self.assertEqual(self.check((60,) * 8, (60,) * 7, 60), 1)
        self.assertEqual(self.check((60,) * 8, (60,) * 7, 31), 30)
        self.assertEqual(self.check((60,) * 8, (60,) * 7, 30), None)

    def test_papers_without_places(self):
        for row in SMALL[::7]:
            for other in SMALL[::5]:
                self.assertIs(alike_ended(row, other, 0), True)
                self.assertIsNone(telling_place(row, other, 0))


class AlikeAtAllLengths(unittest.TestCase):
    def check(self, row, other, lengths):
        told = None
        for length in lengths:
            place = plain_telling(plain_prints(row, length), plain_prints(other, length))
            if place is not None:
                told = (length, place)
                break
        self.assertEqual(telling_length(row, other), told, (row, other))
        self.assertIs(alike_at_all(row, other), told is None)
        return told

    def test_all_small_rows(self):
        # No crease is above 4, so a length above 5 tells no more; 7 is tried beside that.
        prints = {row: [plain_prints(row, length) for length in range(8)] for row in SOME}
        for row in SOME:
            for other in SOME:
                places = [plain_telling(here, there) for here, there in zip(prints[row], prints[other])]
                told = min([(length, place) for length, place in enumerate(places) if place is not None], default=None)
                self.assertEqual(telling_length(row, other), told)
                self.assertIs(alike_at_all(row, other), told is None)
                most = max((0,) + row + other)
                self.assertTrue(told is None or told[0] <= most + 1)

    def test_made_rows(self):
        rng = made(132)
        for _ in range(40):
            row, other = made_pair(rng, 12)
            self.check(row, other, range(20))
        for _ in range(6):
            row, other = made_pair(rng, 60)
            self.check(row, other, range(65))

    def test_far_lengths(self):
        self.assertEqual(self.check((60, 60), (60,), range(65)), (31, 30))
        self.assertEqual(self.check((60,), (), range(65)), (31, 30))
        self.assertEqual(self.check((59,), (), range(65)), (31, 29))
        self.assertEqual(self.check((-60,), (), range(65)), None)
        self.assertEqual(self.check((), (), range(65)), None)
        # One more than the greatest crease: only there a drop at 0 comes to the place 60.
        self.assertEqual(self.check((0, 60), (60, 0), range(65)), (61, 0))
        self.assertEqual(self.check((60, 60, 60), (60, 60, 60), range(65)), None)

    def test_alike_rows_are_not_always_alike_on_papers(self):
        self.assertIs(rows_alike((0, 2, 6), (0, 4, 6)), True)
        self.assertIs(alike_at_all((0, 2, 6), (0, 4, 6)), False)
        self.assertIs(rows_alike((-5, 2), (2, -1)), False)
        self.assertIs(alike_at_all((-5, 2), (2, -1)), True)


if __name__ == "__main__":
    unittest.main()
