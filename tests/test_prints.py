"""wetfolds.prints: steps, first ways, prints, reaches, and prints looked back."""

import unittest
from itertools import product

from tests.support import FAR, made, made_folds, plain_fold, plain_print
from wetfolds.prints import first_way, looked_back, print_of, reaches_of, steps_of

TOP = 10 ** 6


class Prints(unittest.TestCase):
    def test_steps(self):
        self.assertEqual(steps_of(()), ())
        self.assertEqual(steps_of((7,)), ())
        self.assertEqual(steps_of((7, 7, 7)), (0, 0))
        self.assertEqual(steps_of((9, 0, 4, 4, -5)), (0, 4, 9, 9))
        self.assertEqual(steps_of((TOP, -TOP)), (2 * TOP,))
        self.assertEqual(steps_of((0, 1) * 6), (1,) * 11)
        self.assertEqual(steps_of(tuple(k * k for k in range(12))[::-1]), tuple(range(1, 23, 2)))

    def test_first_way(self):
        self.assertIsNone(first_way(5, ()))
        self.assertEqual(first_way(0, (5, 2)), 5)
        self.assertEqual(first_way(0, (-5, 2)), 5)
        self.assertEqual(first_way(3, (6,)), 0)
        self.assertEqual(first_way(4, (6, 0)), 2)
        self.assertEqual(first_way(-4, (6, 0)), 14)

    def test_print_against_single_drops(self):
        rng = made(6)
        for _ in range(300):
            folds, place = made_folds(rng, 6), rng.randint(-15, 15)
            self.assertEqual(print_of(place, folds), plain_print(place, folds))
            turned = plain_print(place, folds[::-1])
            self.assertEqual(looked_back(place, folds), turned)
            reaches = []
            for many in range(len(folds) + 1):
                drops = plain_fold([place], folds[:many])
                reaches.append((min(drops), max(drops)))
            self.assertEqual(reaches_of(place, folds), tuple(reaches))

    def test_no_folds(self):
        for place in (0, 5, -5, FAR, -FAR):
            self.assertEqual(print_of(place, ()), ((place, 1),))
            self.assertEqual(looked_back(place, ()), ((place, 1),))
            self.assertEqual(reaches_of(place, ()), ((place, place),))

    def test_a_place_that_lies_on_itself(self):
        self.assertEqual(print_of(1, (2,)), ((1, 2),))
        self.assertEqual(print_of(1, (2, 2, 2)), ((1, 8),))
        self.assertEqual(reaches_of(1, (2, 4)), ((1, 1), (1, 1), (1, 3)))

    def test_twelve_folds(self):
        folds = tuple(4 ** k for k in range(10)) + (0, 3)
        self.assertEqual(print_of(0, folds), plain_print(0, folds))
        self.assertEqual(sum(drops for _, drops in print_of(5, folds)), 4096)
        self.assertEqual(len(reaches_of(0, folds)), 13)
        self.assertEqual(looked_back(2, folds), plain_print(2, folds[::-1]))

    def test_looked_back_is_what_each_place_prints(self):
        for folds in product(range(-2, 3), repeat=2):
            for place in range(-3, 4):
                told = {x: plain_fold([x], folds).count(place) for x in range(-12, 13)}
                self.assertEqual(dict(looked_back(place, folds)), {x: told[x] for x in told if told[x]})

    def test_creases_at_their_limits(self):
        self.assertEqual(print_of(0, (TOP, -TOP)), ((-2 * TOP, 1), (-TOP, 1), (0, 1), (TOP, 1)))
        self.assertEqual(reaches_of(0, (TOP, -TOP)), ((0, 0), (0, TOP), (-2 * TOP, TOP)))


if __name__ == "__main__":
    unittest.main()
