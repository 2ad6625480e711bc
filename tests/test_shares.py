"""wetfolds.shares: of which drops those at a place come, against living by the log on each of the drops alone."""

import unittest

from tests.support import FAR, HUGE, drops_of, long_strip, made, made_log, made_strip, plain_life
from wetfolds.errors import TooMany
from wetfolds.lives import lived
from wetfolds.shares import shares_at


def plain_shares(strip, log, place):
    """The shares, by the log with all drops left out but those of one deed, or of the strip."""
    found = []
    for index in [-1] + [at for at, deed in enumerate(log) if deed[0] == "drop"]:
        alone = tuple(deed for at, deed in enumerate(log) if deed[0] != "drop" or at == index)
        drops = plain_life(drops_of(strip) if index == -1 else [], alone)
        if drops.count(place):
            found.append((index, drops.count(place)))
    return tuple(found)


class Shares(unittest.TestCase):
    def test_each_drop_alone(self):
        rng = made(231)
        for _ in range(150):
            strip, log = made_strip(rng, 3, 6, 3), made_log(rng, 8)
            places = sorted({place for place, _ in lived(strip, log)})
            for place in places[:5] + places[-3:] + [rng.randint(-20, 20)]:
                self.assertEqual(shares_at(strip, log, place), plain_shares(strip, log, place))

    def test_together_they_are_all_drops_there(self):
        rng = made(232)
        for _ in range(100):
            strip, log = made_strip(rng, 4, 9, 4), made_log(rng, 10, 5)
            for place, drops in lived(strip, log):
                self.assertEqual(sum(share for _, share in shares_at(strip, log, place)), drops)
            self.assertEqual(shares_at(strip, log, 10 ** 6), ())

    def test_no_deeds_and_no_drops(self):
        self.assertEqual(shares_at(((0, 5), (2, 7)), (), 2), ((-1, 7),))
        self.assertEqual(shares_at(((0, 5), (2, 7)), (), 1), ())
        self.assertEqual(shares_at((), (), 0), ())
        self.assertEqual(shares_at((), (("fold", 0), ("move", 3)), 3), ())
        self.assertEqual(shares_at((), (("drop", 3, 2),), 3), ((0, 2),))
        self.assertEqual(shares_at(((3, HUGE),), (("drop", 3, 2),) * 30, 3),
                         ((-1, HUGE),) + tuple((index, 2) for index in range(30)))

    def test_far_places(self):
        strip = ((-FAR, 3), (FAR, 4))
        self.assertEqual(shares_at(strip, (), FAR), ((-1, 4),))
        self.assertEqual(shares_at(strip, (("fold", 5), ("move", 7)), -FAR), ())
        self.assertEqual(shares_at(strip, (("fold", 5), ("move", -5)), FAR), ((-1, 3),))
        self.assertEqual(shares_at(strip, (("fold", 0),) * 12, FAR), ((-1, 2048 * 7),))
        self.assertEqual(shares_at(strip, (("move", 10 ** 4),) * 30, FAR), ())

    def test_without_a_limit(self):
        strip = long_strip(200)
        log = tuple(("fold", 20000 - 3 ** k) for k in range(9)) + (("drop", 3, 5), ("fold", -20000), ("fold", 19999))
        with self.assertRaises(TooMany):
            lived(strip, log)
        places = plain_life(range(200), tuple(deed for deed in log if deed[0] != "drop"))
        self.assertGreater(len(set(places)), 10000)
        for place in sorted(set(places))[::2003] + [3]:
            share = shares_at(strip, log, place)
            self.assertEqual(dict(share).get(-1, 0), places.count(place))
        self.assertEqual(dict(shares_at(strip, log, 3))[9], 5)
        self.assertEqual(dict(shares_at(strip, log, -20003))[9], 5)
        self.assertEqual(dict(shares_at(strip, log, 40002))[9], 5)


if __name__ == "__main__":
    unittest.main()
