"""wetfolds.lives: strips that live by logs, against doing it deed by deed and drop by drop."""

import unittest

from tests.support import FAR, HUGE, drops_of, long_strip, made, made_log, made_strip, plain_life, strip_of
from tests.test_folding import DOUBLING
from wetfolds.errors import InvalidLog, TooMany
from wetfolds.folding import folded_by
from wetfolds.lives import is_log, lived, lived_on

# From five drops side by side to 10000 of them.
TO_10000 = tuple(("fold", h) for h in (9, 19, 39, 78, 156, 312, 624, 1249, 2499, 4999, 9999))
FIVE = tuple(("drop", x, 1) for x in range(5))


class Lives(unittest.TestCase):
    def test_deed_by_deed(self):
        rng = made(211)
        for _ in range(300):
            strip, log = made_strip(rng, 4, 9, 3), made_log(rng, 8)
            told = lived_on(strip, log)
            self.assertEqual(len(told), len(log) + 1)
            for many, came in enumerate(told):
                self.assertEqual(came, strip_of(plain_life(drops_of(strip), log[:many])))
            self.assertEqual(lived(strip, log), told[-1])

    def test_no_deeds_and_thirty(self):
        self.assertEqual(lived((), ()), ())
        self.assertEqual(lived_on((), ()), [()])
        self.assertEqual(lived_on(((FAR, 1),), ()), [((FAR, 1),)])
        self.assertEqual(lived(((FAR, 1),), (("move", 10 ** 4),) * 30), ((FAR + 30 * 10 ** 4, 1),))
        self.assertEqual(lived((), (("drop", -10 ** 4, 10 ** 6),) * 30), ((-10 ** 4, 3 * 10 ** 7),))
        log = (("drop", 0, 1), ("move", -10 ** 4)) * 15
        self.assertEqual(lived((), log), tuple((-10 ** 4 * k, 1) for k in range(15, 0, -1)))

    def test_folds_as_by_rows(self):
        rng = made(212)
        for _ in range(50):
            strip, row = made_strip(rng), tuple(rng.randint(-20, 20) for _ in range(rng.randint(0, 8)))
            self.assertEqual(lived(strip, tuple(("fold", h) for h in row)), folded_by(strip, row))
        self.assertEqual(lived(((0, HUGE),), (("fold", 0),) * 12), ((0, 4096 * HUGE),))
        self.assertEqual(lived(((0, 1),), (("fold", 20000),)), ((0, 1), (20000, 1)))
        self.assertEqual(lived(((0, 1),), (("fold", -20000),)), ((-20000, 1), (0, 1)))

    def test_too_many_pairs(self):
        exact = lived((), FIVE + TO_10000)
        self.assertEqual([x for x, _ in exact], list(range(10000)))
        for more in ((("move", 5), ("fold", 10009)), (("drop", 0, 1), ("drop", 9999, 1)), (("fold", 9999),)):
            self.assertEqual(len(lived((), FIVE + TO_10000 + more)), 10000)
        for more in ((("drop", 10000, 1),), (("fold", 10000),), (("move", 1), ("drop", 0, 1)), (("fold", -5),)):
            for function in (lived, lived_on):
                with self.assertRaises(TooMany) as caught:
                    function((), FIVE + TO_10000 + more + (("move", 0),))
                self.assertEqual(caught.exception.limit, 10000)
        strip, log = long_strip(200), tuple(("fold", h) for h in DOUBLING)
        self.assertEqual(len(lived(strip, log + (("fold", 9999),))), 10000)
        with self.assertRaises(TooMany):
            lived(strip, log + (("fold", 10000),))

    def test_what_is_a_log(self):
        for value, right in (
            ((), True), ((("fold", 0),) * 12, True), ((("fold", 0),) * 13, False), ((("move", 0),) * 30, True),
            ((("move", 0),) * 31, False), ((("drop", 0, 1),), True), ((("drop", 0, 0),), False), ([], False),
            ((["fold", 0],), False), ((("fold", True),), False), ((("fold", 20000),), True),
            ((("fold", 20001),), False), ((("move", -10000),), True), ((("move", -10001),), False),
            ((("drop", 10000, 10 ** 6),), True), ((("drop", 10001, 1),), False), ((("drop", 0, 10 ** 6 + 1),), False),
            ((("fold", 0),) * 12 + (("move", 0),) * 18, True), ((("fold", 0),) * 12 + (("move", 0),) * 19, False),
        ):
            self.assertIs(is_log(value), right)
            if not right:
                with self.assertRaises(InvalidLog):
                    lived((), value)


if __name__ == "__main__":
    unittest.main()
