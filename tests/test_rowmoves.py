"""wetfolds.rowmoves: moves of rows and roads of moves, move by move."""

import unittest
from itertools import product

from tests.support import made, made_folds
from wetfolds.errors import InvalidMove
from wetfolds.rowmoves import is_road, moved_row, road_between

TOP = 10 ** 6


def plain_move(row, move):
    """What comes of a row by a move, as the document says it; None for what is no move of the row."""
    kind, first, last = move
    if not 0 <= first < last < len(row) or kind == "mirror" and row[first] != row[last]:
        return None
    new = list(row)
    for i in range(first, last + 1):
        if kind == "turn":
            new[i] = row[first] + row[last] - row[first + last - i]
        else:
            new[i] = 2 * row[first] - row[i]
    return tuple(new)


def plain_form(row):
    return (len(row), row[:1], row[-1:], sorted(abs(a - b) for a, b in zip(row, row[1:])))


def plain_moves(row):
    """All moves of a row."""
    found = [(kind, a, b) for kind in ("turn", "mirror") for b in range(len(row)) for a in range(b)]
    return [move for move in found if plain_move(row, move) is not None]


class Moves(unittest.TestCase):
    def check_road(self, row, other):
        road = road_between(row, other)
        if plain_form(row) != plain_form(other):
            self.assertIsNone(road)
            self.assertIs(is_road(row, other, ()), False)
            return
        self.assertIsInstance(road, tuple)
        self.assertLessEqual(len(road), 200)
        came = row
        for move in road:
            self.assertEqual((len(move), isinstance(move, tuple)), (3, True))
            came = plain_move(came, move)
            self.assertIsNotNone(came)
        self.assertEqual(came, other)
        self.assertIs(is_road(row, other, road), True)

    def test_moves_of_small_rows(self):
        for many in range(5):
            for row in product(range(-1, 2), repeat=many):
                for move in product(("turn", "mirror"), range(-1, many + 1), range(-1, many + 1)):
                    came = plain_move(row, move)
                    if came is None:
                        with self.assertRaises(InvalidMove):
                            moved_row(row, move)
                        self.assertIs(is_road(row, row, (move,)), False)
                    else:
                        self.assertEqual(moved_row(row, move), came)
                        self.assertIs(is_road(row, came, (move,)), True)

    def test_moves_of_long_rows(self):
        rng = made(19)
        for _ in range(60):
            row = made_folds(rng, 12, 4, 12)
            for move in plain_moves(row):
                self.assertEqual(moved_row(row, move), plain_move(row, move))
        self.assertEqual(moved_row((TOP, -TOP, TOP), ("turn", 0, 2)), (TOP, 3 * TOP, TOP))
        self.assertEqual(moved_row((TOP, -TOP, TOP), ("mirror", 0, 2)), (TOP, 3 * TOP, TOP))

    def test_roads_between_small_rows(self):
        rows = [row for many in range(5) for row in product(range(-1, 2), repeat=many)]
        for row in rows:
            for other in rows:
                self.check_road(row, other)

    def test_roads_between_made_rows(self):
        rng = made(20)
        for far in (1, 2, 3, 10, TOP):
            for _ in range(40):
                row = made_folds(rng, 12, far, rng.choice((0, 1, 12)))
                other = row
                for _ in range(30):
                    moves = plain_moves(other)
                    came = plain_move(other, rng.choice(moves)) if moves else other
                    if max([abs(h) for h in came] + [0]) <= TOP:
                        other = came
                self.assertEqual(plain_form(row), plain_form(other))
                self.check_road(row, other)
                self.check_road(other, row)
                self.check_road(row, made_folds(rng, 12, far, 12))

    def test_roads_for_which_signs_must_be_changed(self):
        self.check_road((0, 1, 3, 0), (0, -1, -3, 0))
        self.check_road((0, 5, 6, 8, 3, 0, 1), (0, -5, -4, -6, -1, 2, 1))
        self.check_road((0, 1, 0, 1, 0, 1, 0), (0, -1, 0, -1, 0, -1, 0))
        # Of the steps 1, 2, 3, 4, 5, 7 those of 1, 2 and 3, and those of 3, 4 and 7, can make 0.
        self.check_road((0, 1, 3, 0, 4, 9, 16), (0, -1, -3, 0, 4, 9, 16))
        self.check_road((0, 3, 7, 0, 1, 3, 8), (0, -3, -7, 0, 1, 3, 8))
        self.check_road((0, 1, 3, 8, 5, 9, 2), (0, 5, 3, 2, -1, -5, 2))

    def test_creases_between_may_be_of_any_size(self):
        self.check_road((-TOP, TOP, 0, TOP), (-TOP, 0, -TOP, TOP))
        self.check_road((TOP, -TOP, TOP, 0, TOP), (TOP, 0, TOP, -TOP, TOP))
        self.check_road((TOP, TOP - 1, -TOP, -TOP, TOP), (TOP, -TOP, -TOP, 1 - TOP, TOP))
        row, mirror, turn = (TOP, -TOP, TOP), ("mirror", 0, 2), ("turn", 0, 2)
        self.assertEqual(moved_row(row, mirror), (TOP, 3 * TOP, TOP))
        self.assertIs(is_road(row, row, (mirror, mirror)), True)
        self.assertIs(is_road(row, row, (mirror, turn)), True)
        self.assertIs(is_road(row, row, (mirror,)), False)

    def test_lengths_of_roads(self):
        row = (0, 1, 3)
        turn = ("turn", 0, 2)
        self.assertIs(is_road(row, row, ()), True)
        self.assertIs(is_road(row, (0, 2, 3), ()), False)
        self.assertIs(is_road((), (), ()), True)
        self.assertIs(is_road((), (0,), ()), False)
        self.assertIs(is_road(row, row, (turn,) * 200), True)
        self.assertIs(is_road(row, (0, 2, 3), (turn,) * 199), True)
        self.assertIs(is_road(row, (0, 2, 3), (turn,) * 201), False)
        self.assertIs(is_road(row, row, (turn,) * 202), False)
        self.assertIs(is_road(row, row, [turn, turn]), False)
        self.assertIs(is_road(row, row, (turn, turn)), True)
        self.assertIs(is_road(row, row, (turn, list(turn))), False)
        self.assertIs(is_road(row, (0, 2, 3), (turn, turn)), False)

    def test_each_move_is_one_of_what_has_come_so_far(self):
        # The creases at 1 and 2 are equal only behind the turn, those at 0 and 1 only ahead of it.
        row = (0, 0, 3, 4)
        between = moved_row(row, ("turn", 0, 2))
        self.assertEqual(between, (0, 3, 3, 4))
        self.assertIs(is_road(row, (0, 3, 3, 4), (("turn", 0, 2), ("mirror", 1, 2))), True)
        self.assertIs(is_road(row, (0, 3, 3, 4), (("mirror", 1, 2), ("turn", 0, 2))), False)
        self.assertIs(is_road(row, (0, 3, 3, 4), (("mirror", 0, 1), ("turn", 0, 2))), True)
        self.assertIs(is_road(row, (0, 3, 3, 4), (("turn", 0, 2), ("mirror", 0, 1))), False)


if __name__ == "__main__":
    unittest.main()
