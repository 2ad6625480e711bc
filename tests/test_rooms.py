"""wetfolds.rooms: rooms and safe places, against losing nothing on all walks."""

import unittest
from itertools import product

from tests.support import made, made_folds, plain_ended
from wetfolds.ends import lost_drops
from wetfolds.errors import InvalidFolds, InvalidLength
from wetfolds.prints import first_way
from wetfolds.rooms import room_of, safe_places

SMALL = [row for many in range(4) for row in product(range(-1, 7), repeat=many)]


def plain_room(row, length):
    """The room as the document words it."""
    rooms = []
    for at, h in enumerate(row):
        steps = sum(abs(a - b) for a, b in zip(row[:at], row[1:at + 1]))
        rooms.append(h - steps)
        if length is not None:
            rooms.append(2 * length - 2 - h - steps)
    return min(rooms)


def plain_safe(row, length):
    """The places of which all walks stay on the paper."""
    places = range(62 if length is None else length)
    return [place for place in places if len(plain_ended([place], row, length)) == 2 ** len(row)]


class Rooms(unittest.TestCase):
    def check(self, row, length):
        if row:
            self.assertEqual(room_of(row, length), plain_room(row, length), (row, length))
        safe = plain_safe(row, length)
        self.assertEqual(safe_places(row, length), safe, (row, length))
        return safe

    def test_all_small_rows(self):
        some = 0
        for row in SMALL:
            for length in (0, 1, 2, 3, 4, 5, 8):
                some += len(self.check(row, length)) > 1
        self.assertGreater(some, 50)

    def test_without_a_right_end(self):
        for row in SMALL[1::3]:
            self.check(row, None)
        self.assertEqual(len(self.check((60,), None)), 61)
        self.assertEqual(self.check((-1,), None), [])
        self.assertEqual(self.check((0,), None), [0])
        self.assertEqual(self.check((60,) * 8, None), list(range(61)))

    def test_made_rows(self):
        rng = made(151)
        for _ in range(120):
            length = rng.choice((None, 20, 33, 60, 64))
            self.check(made_folds(rng, 5, 60, 1), length)
            self.check(tuple(rng.randint(25, 35) for _ in range(rng.randint(1, 6))), length)

    def test_a_drop_loses_nothing_just_in_the_room(self):
        rng = made(152)
        for _ in range(150):
            row, length = made_folds(rng, 4, 40, 1), rng.choice((10, 25, 64, None))
            for place in range(length or 45):
                safe = first_way(place, row) <= room_of(row, length)
                self.assertIs(lost_drops(place, row, length) == 0, safe)
                self.assertIs(place in safe_places(row, length), safe)

    def test_rooms_below_0(self):
        self.assertEqual(room_of((0, 60), None), 0)
        self.assertEqual(room_of((60, 0), None), -60)
        self.assertEqual(room_of((-60, 60) * 4, None), -780)
        self.assertEqual(room_of((0,), 0), -2)
        self.assertEqual(room_of((60,), 31), 0)
        self.assertEqual(room_of((60,), 30), -2)
        self.assertEqual(safe_places((60,), 31), [30])
        self.assertEqual(safe_places((60,), 30), [])
        self.assertEqual(safe_places((59,), 31), [29, 30])
        self.assertEqual(safe_places((60,) * 8, 64), list(range(61)))
        self.assertEqual(safe_places((60,) * 8, 61), list(range(61)))
        self.assertEqual(safe_places((60,) * 8, 60), list(range(1, 60)))

    def test_no_folds(self):
        for length in (0, 1, 2, 64):
            self.assertIsNone(room_of((), length))
            self.assertEqual(safe_places((), length), list(range(length)))
        self.assertIsNone(room_of((), None))
        with self.assertRaises(InvalidLength):
            safe_places((), None)
        for row in ([], None, (61,)):
            with self.assertRaises(InvalidFolds):
                safe_places(row, None)

    def test_papers_without_places(self):
        for row in SMALL:
            self.assertEqual(safe_places(row, 0), [])


if __name__ == "__main__":
    unittest.main()
