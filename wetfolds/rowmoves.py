"""Moves of rows, and roads of moves from one row to another one."""

from wetfolds.alikerows import do_the_same
from wetfolds.checks import check_folds, is_from_to, is_tuple_up_to
from wetfolds.errors import InvalidMove

MOST_MOVES = 200


def moved_row(folds, move):
    """What comes of a row by a move."""
    check_folds(folds)
    if not is_move(folds, move):
        raise InvalidMove("no move of the row")
    return do_move(folds, move)


def road_between(folds, beside):
    """A road from the first row to the second one; None if there is none."""
    check_folds(folds)
    check_folds(beside)
    if not do_the_same(folds, beside):
        return None
    goal = ways_of(beside)
    moves = moves_to_signs(ways_of(folds), goal)
    return moves + moves_to_order(ways_of(do_moves(folds, moves)), goal)


def is_road(folds, beside, value):
    """Whether any value is a road from the first row to the second one."""
    check_folds(folds)
    check_folds(beside)
    if not is_tuple_up_to(value, MOST_MOVES):
        return False
    row = folds
    for move in value:
        if not is_move(row, move):
            return False
        row = do_move(row, move)
    return row == beside


def is_move(row, value):
    """Whether a value is a move of a row of any integers."""
    if not isinstance(value, tuple) or len(value) != 3:
        return False
    kind, first, last = value
    if not is_from_to(last, 0, len(row) - 1) or not is_from_to(first, 0, last - 1):
        return False
    return kind == "turn" or kind == "mirror" and row[first] == row[last]


def do_move(row, move):
    """What comes of a row of any integers by a move of it."""
    kind, first, last = move
    stretch = row[first:last + 1]
    if kind == "turn":
        both = row[first] + row[last]
        changed = [both - crease for crease in stretch[::-1]]
    else:
        changed = [2 * row[first] - crease for crease in stretch]
    return row[:first] + tuple(changed) + row[last + 1:]


def do_moves(row, moves):
    """What comes of a row by moves, one behind the other."""
    for move in moves:
        row = do_move(row, move)
    return row


def ways_of(row):
    """The list of what is added to each crease of a row to come to the next one."""
    return [further - crease for crease, further in zip(row, row[1:])]


def moves_to_signs(ways, goal):
    """Moves by which the ways of a row get the signs that those of another row have, in any order."""
    # Both have the same sum, so the ways whose signs are wrong make 0 together: once they stand side by
    # side at the beginning, the creases at both ends of them are equal, and one mirroring turns them all.
    wrong = wrong_ways(ways, goal)
    if len(wrong) == 0:
        return ()
    return moves_to_order(ways, wrong) + (("mirror", 0, len(wrong)),)


def wrong_ways(ways, goal):
    """The list of those of the ways that have another sign in the goal, as often as they are too many."""
    wrong = []
    for way in sorted(set(ways)):
        too_many = ways.count(way) - goal.count(way)
        if too_many > 0:
            wrong.extend([way] * too_many)
    return wrong


def moves_to_order(ways, goal):
    """Turns by which the ways of a row begin with those of the goal, in its order."""
    moves = []
    for at in range(len(goal)):
        found = at + ways[at:].index(goal[at])
        if found > at:
            moves.append(("turn", at, found + 1))
            ways = ways[:at] + ways[at:found + 1][::-1] + ways[found + 1:]
    return tuple(moves)
