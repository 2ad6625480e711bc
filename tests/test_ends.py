"""wetfolds.ends: strips on papers with ends, against going along all walks that stay on them."""

import unittest
from itertools import product

from tests.support import FAR, HUGE, drops_of, long_strip, made, made_folds, plain_ended, plain_ended_print, strip_of
from wetfolds.ends import ended_print, ended_strip, lost_drops
from wetfolds.errors import InvalidFolds, InvalidLength, InvalidPlace, InvalidStrip
from wetfolds.folding import folded_by
from wetfolds.prints import print_of

SMALL = [row for many in range(4) for row in product(range(-1, 6), repeat=many)]
LENGTHS = (0, 1, 2, 3, 4, 5, 7, None)


class Ends(unittest.TestCase):
    def check(self, place, row, length):
        drops = plain_ended([place], row, length)
        self.assertEqual(ended_print(place, row, length), strip_of(drops))
        self.assertEqual(lost_drops(place, row, length), 2 ** len(row) - len(drops))

    def test_all_small_rows(self):
        for row in SMALL:
            for length in LENGTHS:
                for place in range(6 if length is None else length):
                    self.check(place, row, length)

    def test_made_rows(self):
        rng = made(121)
        for _ in range(150):
            length = rng.choice((None, 1, 10, 30, 63, 64))
            place = rng.randrange(length or 70)
            self.check(place, made_folds(rng, 8, 60), length)
            self.check(place, tuple(rng.randint(0, 60) for _ in range(8)), length)

    def test_strips(self):
        rng = made(122)
        for _ in range(200):
            length = rng.choice((None, 0, 1, 5, 12, 64))
            places = range(20 if length is None else length)
            strip = strip_of([rng.choice(places) for _ in range(rng.randint(0, 8)) if places])
            row = made_folds(rng, 5, 20)
            self.assertEqual(ended_strip(strip, row, length), strip_of(plain_ended(drops_of(strip), row, length)))

    def test_far_creases_and_places(self):
        self.check(0, (60,) * 8, 61)
        self.check(0, (60,) * 8, 60)
        self.check(60, (60,) * 8, None)
        self.check(61, (60, -60) * 4, None)
        self.assertEqual(ended_print(FAR, (60,) * 8, None), ((FAR, 1),))
        self.assertEqual(lost_drops(FAR, (60,) * 8, None), 255)
        self.assertEqual(ended_print(30, (60,) * 8, 64), ((30, 256),))
        self.assertEqual(ended_print(63, (60,) * 8, 64), ((63, 1),))
        self.assertEqual(ended_strip(((0, HUGE), (FAR, 1)), (1, 1), None), ((0, 2 * HUGE), (1, 2 * HUGE), (FAR, 1)))
        wide = ended_strip(long_strip(200), (60, -60, 59), None)
        self.assertEqual(wide, strip_of(plain_ended(range(200), (60, -60, 59), None)))

    def test_no_folds_and_papers_without_places(self):
        for length in (1, 64, None):
            self.assertEqual(ended_print(0, (), length), ((0, 1),))
            self.assertEqual(lost_drops(0, (), length), 0)
            self.assertEqual(ended_strip((), (), length), ())
        self.assertEqual(ended_strip((), (0, 5), 0), ())
        for row in ((), (0,), (2, 2)):
            for place in (0, -1, 1, FAR, -FAR):
                with self.assertRaises(InvalidPlace):
                    ended_print(place, row, 0)
                with self.assertRaises(InvalidStrip):
                    ended_strip(((place, 1),), row, 0)

    def test_one_fold(self):
        self.assertEqual(ended_print(3, (6,), 4), ((3, 2),))
        self.assertEqual(ended_print(3, (5,), 4), ((2, 1), (3, 1)))
        self.assertEqual(ended_print(3, (7,), 4), ((3, 1),))
        self.assertEqual(ended_print(3, (2,), 4), ((3, 1),))
        self.assertEqual(ended_print(3, (3,), 4), ((0, 1), (3, 1)))
        self.assertEqual(lost_drops(3, (7,), 4), 1)
        self.assertEqual(lost_drops(3, (7,), 5), 0)
        self.assertEqual(lost_drops(3, (2,), None), 1)

    def test_lost_drops_are_not_there_at_the_next_fold(self):
        self.assertEqual(ended_print(0, (2, 2), 2), ((0, 1),))
        self.assertEqual(ended_print(0, (2, 2), 3), ((0, 2), (2, 2)))
        self.assertEqual(ended_print(1, (-1, 0), None), ((1, 1),))

    def test_nothing_is_lost_far_from_the_ends(self):
        rng = made(123)
        for _ in range(50):
            row = tuple(60 - rng.randint(0, 3) for _ in range(4))
            self.assertEqual(ended_print(30, row, 64), print_of(30, row))
            self.assertEqual(lost_drops(30, row, None), 0)
        self.assertEqual(ended_strip(((29, 2), (30, 1)), (60, 58), None), folded_by(((29, 2), (30, 1)), (60, 58)))

    def test_places_off_the_paper_come_at_last(self):
        for function in (ended_print, lost_drops):
            for place, length in ((3, 3), (4, 3), (-1, 3), (-1, None), (FAR, 64), (64, 64), (-FAR, None), (0, 0)):
                with self.assertRaises(InvalidPlace):
                    function(place, (2, 2), length)
                with self.assertRaises(InvalidFolds):
                    function(place, (61,), length)
                with self.assertRaises(InvalidFolds):
                    function(place, [2], True)
                with self.assertRaises(InvalidLength):
                    function(place, (2, 2), 65)
                with self.assertRaises(InvalidLength):
                    function(place, (2, 2), False)
            with self.assertRaises(InvalidPlace):
                function(FAR + 1, (61,), 65)
            with self.assertRaises(InvalidPlace):
                function(True, (61,), 65)
            function(63, (2, 2), 64)
            function(2, (2, 2), 3)
            function(FAR, (2, 2), None)

    def test_strips_off_the_paper_come_at_last(self):
        for strip, length in ((((3, 1),), 3), (((0, 1), (3, 1)), 3), (((-1, 1), (1, 1)), 3), (((-1, 1),), None)):
            with self.assertRaises(InvalidStrip):
                ended_strip(strip, (2, 2), length)
            with self.assertRaises(InvalidFolds):
                ended_strip(strip, (0,) * 9, length)
            with self.assertRaises(InvalidLength):
                ended_strip(strip, (2, 2), -1)
        with self.assertRaises(InvalidStrip):
            ended_strip(((0, 0),), (61,), 65)
        self.assertEqual(ended_strip(((0, 1), (2, 1)), (2,), 3), ((0, 2), (2, 2)))


class Prints(unittest.TestCase):
    def test_plain_walks_are_as_the_document_shows(self):
        self.assertEqual(plain_ended_print(1, (0, 2, 6), None), ((1, 2), (5, 2)))


if __name__ == "__main__":
    unittest.main()
