"""What the tests share: made strips and rows, a plain folding drop by drop, and wrong values of every kind."""

import random
from collections import Counter

from wetfolds.errors import TooMany
from wetfolds.keepers import Keeper


def plain_fold(drops, folds):
    """Fold a list with one place for each drop: each fold lays as many drops again to the mirror places."""
    drops = list(drops)
    for h in folds:
        drops = drops + [h - x for x in drops]
    return drops


def drops_of(strip):
    """The list with one place for each drop of a strip."""
    return [place for place, drops in strip for _ in range(drops)]


def strip_of(drops):
    """The strip of a list with one place for each drop."""
    return tuple(sorted(Counter(drops).items()))


def plainly_folded(strip, folds):
    """A strip folded by a row, drop by drop."""
    return strip_of(plain_fold(drops_of(strip), folds))


def plain_print(place, folds):
    """The print of one drop, drop by drop."""
    return strip_of(plain_fold([place], folds))


def plain_ink(places, folds):
    """The lot to which some places come, one by one."""
    return tuple(sorted(set(plain_fold(places, folds))))


def row_by(first, ways):
    """The row from a first crease on, by what is added to each crease to come to the next one."""
    row = [first]
    for way in ways:
        row.append(row[-1] + way)
    return tuple(row)


def made_strip(rng, pairs=6, far=20, most=5):
    """Some strip."""
    places = rng.sample(range(-far, far + 1), rng.randint(0, pairs))
    return tuple(sorted((place, rng.randint(1, most)) for place in places))


def made_folds(rng, many=4, far=20, least=0):
    """Some row of folds."""
    return tuple(rng.randint(-far, far) for _ in range(rng.randint(least, many)))


def made(seed):
    """A source of made things that is the same in each run."""
    return random.Random(seed)


def near_first(far):
    """The places in the order 0, 1, -1, 2, -2 .."""
    places = [0]
    for x in range(1, far + 1):
        places += [x, -x]
    return places


def long_strip(many=200):
    """A strip of so many pairs, one beside the other, from 0 on."""
    return tuple((x, 1) for x in range(many))


def nested(kind, depth):
    """A tuple or a list, nested so deep."""
    value = kind()
    for _ in range(depth):
        value = kind([value])
    return value


FAR = 10 ** 9
HUGE = 10 ** 119

# Values that are neither an integer, nor a string, nor a tuple.
STRANGE = [None, True, False, [], [0], [(0, 1)], nested(list, 99), TooMany(7), Keeper(()), [None] * 1000]
STRINGS = ["", ".", "0", "0:1", "turn", "x" * 4000]
TUPLES = [(), (0,), (1, 2), ((0, 1),), (None,), ("0",), (Keeper(((0, 1),)),), nested(tuple, 99), tuple(range(1000)), ((),) * 1000]
INTEGERS = [0, 1, -1, 12, FAR, HUGE, -HUGE]


def wrong_integers(least, greatest):
    """Values that are no integers from one to another one."""
    return STRANGE + STRINGS + TUPLES + [least - 1, greatest + 1, HUGE, -HUGE]


WRONG_STRIPS = STRANGE + STRINGS + INTEGERS + [
    (0,), (None,), ("0:1",), ((),), ((0,),), ((0, 1, 2),), ([0, 1],), ((0, 1), [3, 2]), ((0, 1), 3), (0, 1),
    ((0, 0),), ((0, -1),), ((0, -HUGE),), ((0, 1), (3, 0)), ((0, 1), (3, -2)),
    ((True, 1),), ((False, 1),), ((0, True),), ((0, False),), ((0, 1), (True, 1)), ((0, 1), (3, True)),
    (("0", 1),), ((0, "1"),), ((None, 1),), ((0, None),), ((0, (1,)),), (((0,), 1),), ((0, [1]),), (("", ""),),
    ((3, 2), (0, 1)), ((0, 1), (-1, 1)), ((0, 1), (0, 1)), ((0, 1), (0, 2)), ((0, 1), (5, 1), (3, 1)),
    ((0, 1), (5, 1), (5, 1)), ((FAR + 1, 1),), ((-FAR - 1, 1),), ((0, 1), (FAR + 1, 1)), ((-FAR - 1, 1), (0, 1)),
    ((HUGE, 1),), long_strip(201), long_strip(1000), nested(tuple, 99), (nested(tuple, 98),), ("01",),
    ((0, 1), "12"), [long_strip(3)],
]

WRONG_FOLDS = STRANGE + STRINGS + INTEGERS + [
    [0, 2], (None,), ("0",), ((0,),), ((),), ([],), ([0],), (True,), (False,), (0, True), (0, 2, False),
    (0, None, 2), (0, "2"), (10 ** 6 + 1,), (-10 ** 6 - 1,), (0, 10 ** 6 + 1), (0, -10 ** 6 - 1), (HUGE,), (-HUGE,),
    (0,) * 13, tuple(range(13)), (0,) * 1000, nested(tuple, 99), ((0, 1),), "(0, 2)",
]

WRONG_FORMS = STRANGE + STRINGS + INTEGERS + [
    (), (0,), (0, 0), (0, 0, (), ()), [0, 0, ()], (0, 0, []), (0, 0, [2]), (0, 0, None), (0, 0, 2), (0, 0, ""),
    (True, 0, ()), (0, False, ()), (None, 0, ()), (0, None, ()), ("0", 0, ()), (0, "0", ()), ((), 0, ()),
    (10 ** 6 + 1, 0, ()), (-10 ** 6 - 1, 0, ()), (0, 10 ** 6 + 1, ()), (0, -10 ** 6 - 1, ()), (HUGE, 0, ()),
    (0, 0, (-1,)), (0, 0, (2 * 10 ** 6 + 1,)), (0, 0, (0, 2 * 10 ** 6 + 1)), (0, 0, (HUGE,)), (0, 0, (2, 1)),
    (0, 0, (1, 3, 2)), (0, 0, (1, 0)), (0, 0, (True,)), (0, 0, (0, False)), (0, 0, (None,)), (0, 0, ("1",)),
    (0, 0, ((1,),)), (0, 0, (0,) * 12), (0, 0, tuple(range(12))), (0, 0, (0,) * 1000), (0, 0, nested(tuple, 98)),
    nested(tuple, 99), "abc",
]

# No moves of the row (0, 1, 3, 0).
WRONG_MOVES = STRANGE + STRINGS + INTEGERS + TUPLES + [
    ("turn", 0), ("turn", 0, 1, 2), ["turn", 0, 1], ("turn", 1, 0), ("turn", 1, 1), ("turn", 0, 4), ("turn", -1, 2),
    ("turn", 0, -1), ("turn", True, 2), ("turn", 0, True), ("turn", False, 2), ("turn", None, 2), ("turn", 0, None),
    ("turn", "0", 2), ("turn", 0, "2"), ("turn", (0,), 2), ("turn", 0, [2]), ("turn", 0, HUGE), ("turn", -HUGE, 2),
    ("mirror", 0, 1), ("mirror", 1, 3), ("mirror", 0, 0), ("mirror", 3, 0), ("mirror", 0, 4), ("mirror", -1, 3),
    ("mirror", False, 3), ("mirror", 0, None), ("Turn", 0, 1), ("", 0, 1), (None, 0, 1), (True, 0, 1), (0, 0, 1),
    (("turn",), 0, 1), (["turn"], 0, 1), ("moved", 0, 1), ("mirrored", 0, 3), "tur",
]

WRONG_NEARS = WRONG_STRIPS + [
    (), ((100001, 1),), ((-100001, 1),), ((0, 1), (100001, 1)), ((-100001, 1), (0, 1)), ((FAR, 1),),
]

WRONG_STEPS = STRANGE + STRINGS + INTEGERS + [
    [2], [], [0, 1], (None,), ("1",), ((1,),), ((),), (True,), (False,), (0, True), (False, 1), (-1,), (-1, 0), (-HUGE,),
    (2, 1), (0, 5, 3), (1, 0), (10 ** 6 + 1,), (0, 10 ** 6 + 1), (HUGE,), (0,) * 12, tuple(range(12)), (0,) * 1000,
    nested(tuple, 99), (1, None), "12",
]

WRONG_PRIMES = STRANGE + STRINGS + TUPLES + [
    0, 1, 4, 6, 8, 9, 11, 13, -2, -3, -7, FAR, HUGE, -HUGE, (2,), [3], "5", ((7,),),
]

WRONG_LOTS = STRANGE + STRINGS + INTEGERS + [
    [1, 2], (None,), ("0",), ("0", "1"), ((0,),), ((),), ([],), ((0, 1),), (True,), (False,), (0, True), (False, 1),
    (-1, True), (0, None), (0, "1"), (10 ** 5 + 1,), (-10 ** 5 - 1,), (0, 10 ** 5 + 1), (-10 ** 5 - 1, 0), (HUGE,),
    (-HUGE,), (2, 1), (0, 5, 3), (0, -1), (1, 1), (0, 0), (0, 1, 1), tuple(range(257)), tuple(range(256, 0, -1)),
    tuple(range(1000)), nested(tuple, 99), "(0, 1)", [list(range(3))],
]

# No ring drops of the size 3.
WRONG_RINGS = STRANGE + STRINGS + INTEGERS + [
    (), (0,), (1, 2), (0, 0, 0, 0), (1, 2, 3, 4), [0, 4, 3], [(0, 4, 3)], ((0, 4, 3),), (-1, 0, 0), (0, 0, -1),
    (0, -HUGE, 0), (FAR + 1, 0, 0), (0, 0, FAR + 1), (0, HUGE, 0), (True, 0, 0), (0, 0, False), (None, 0, 0),
    (0, None, 0), ("0", 0, 0), (0, 0, "1"), ((0,), 0, 0), ([0], 0, 0), ((), (), ()), "abc", "012", (0,) * 64,
    nested(tuple, 99), ((0, 1), (1, 4), (2, 3)), tuple(range(1000)),
]

WRONG_ENDED_FOLDS = WRONG_FOLDS + [
    (61,), (-61,), (0, 61), (0, -61), (60, 60, 61), (10 ** 6,), (-10 ** 6, 0), (0,) * 9, tuple(range(9)), (0,) * 12,
    (0, 60, True), (60, None), (61, 2, 3, 4, 5, 6, 7, 8),
]


def long_sheet(many):
    """A sheet of so many spots, one beside the other, from (0, 0) on."""
    return tuple(((x, 0), 1) for x in range(many))


WRONG_SPOTS = STRANGE + STRINGS + INTEGERS + [
    (), (0,), (0, 0, 0), [0, 0], ((0, 0),), (True, 0), (0, False), (None, 0), (0, None), ("0", 0), (0, "0"), ((0,), 0),
    (0, [0]), (FAR + 1, 0), (0, FAR + 1), (-FAR - 1, 0), (0, -FAR - 1), (HUGE, 0), (0, -HUGE), (Keeper(()), 0),
    nested(tuple, 99), "00",
]

WRONG_SHEETS = STRANGE + STRINGS + INTEGERS + [
    (0,), (None,), ("0",), ((),), ((0, 1),), (((0, 0),),), (((0, 0), 1, 2),), ([(0, 0), 1],), [((0, 0), 1)],
    (([0, 0], 1),), (((0, 0), 0),), (((0, 0), -1),), (((0, 0), True),), (((0, 0), False),), (((0, 0), None),),
    (((0, 0), "1"),), (((0, 0), (1,)),), (((True, 0), 1),), (((0, False), 1),), (((0,), 1),), (((0, 0, 0), 1),),
    (((None, 0), 1),), ((("0", 0), 1),), (((0, FAR + 1), 1),), (((-FAR - 1, 0), 1),), (((0, HUGE), 1),), ((0, 0), 1),
    (((0, 1), 1), ((0, 0), 1)), (((1, 0), 1), ((0, 5), 1)), (((0, 0), 1), ((0, 0), 1)), (((0, 0), 1), ((0, 0), 2)),
    (((0, 0), 1), ((0, 1), 0)), (((0, 0), 1), ((0, 1), 1), ((0, 1), 1)), (((0, 0), 1), 3), (((0, 0), 1), ((1, 0), True)),
    ((Keeper(()), 1),), (((0, 0), Keeper(())),), long_sheet(201), long_sheet(1000), list(long_sheet(3)),
    nested(tuple, 99), ((nested(tuple, 97), 1),), "ab",
]

WRONG_SHEET_ROWS = STRANGE + STRINGS + INTEGERS + [
    (0,), (None,), ("x",), ("x", 0), ((),), (("x",),), (("x", 0, 0),), (["x", 0],), [("x", 0)], (("z", 1),),
    (("X", 1),), (("", 1),), (("x ", 1),), (("lesser", 1),), (("sums", 1),), (("xy", 1),), ((None, 1),), ((0, 1),),
    ((True, 1),), ((("x",), 1),), ((["x"], 1),), ((Keeper(()), 1),), (("x", None),), (("x", True),), (("y", False),),
    (("less", "0"),), (("sum", (0,)),), (("x", 10 ** 6 + 1),), (("y", -10 ** 6 - 1),), (("less", HUGE),),
    (("sum", -HUGE),), ((0, "x"),), (("x", 0), ("y",)), (("x", 0), None), (("x", 0), ["y", 0]), (("x", 0), ("w", 0)),
    (("x", 0),) * 11, (("sum", 0),) * 1000, nested(tuple, 99), ("x0",), ("x" * 4000,), (("x" * 4000, 0),),
]

WRONG_LOGS = STRANGE + STRINGS + INTEGERS + [
    (0,), (None,), ("fold",), ("fold", 2), ("move", 1), ((),), (("fold",),), (("drop",),), (("move",),), (("drop", 1),),
    (("drop", 1, 1, 1),), (("fold", 2, 1),), (("move", 2, 1),), (["fold", 2],), [("fold", 2)], (("Fold", 2),),
    (("folds", 2),), (("", 2),), ((None, 2),), ((0, 2),), ((True, 0),), ((("fold",), 2),), ((["fold"], 2),),
    (("turn", 0, 1),), (("drops", 0, 1),), ((Keeper(()), 2),), ((Keeper(()), 0, 1),), (("drop", None, 1),),
    (("drop", 0, None),), (("drop", True, 1),), (("drop", 0, True),), (("drop", 0, False),), (("drop", 0, 0),),
    (("drop", 0, -1),), (("drop", 0, 10 ** 6 + 1),), (("drop", 0, HUGE),), (("drop", 10 ** 4 + 1, 1),),
    (("drop", -10 ** 4 - 1, 1),), (("drop", -HUGE, 1),), (("drop", "0", 1),), (("drop", 0, "1"),), (("drop", (0,), 1),),
    (("drop", 0, [1]),), (("fold", None),), (("fold", False),), (("fold", "2"),), (("fold", (2,)),),
    (("fold", 2 * 10 ** 4 + 1),), (("fold", -2 * 10 ** 4 - 1),), (("fold", HUGE),), (("move", None),), (("move", True),),
    (("move", "1"),), (("move", [1]),), (("move", 10 ** 4 + 1),), (("move", -10 ** 4 - 1),), (("move", -HUGE),),
    (("fold", 2), ("fold",)), (("fold", 2), None), (("fold", 2), ["fold", 2]), (("move", 1), ("drop", 0, 0)),
    (("move", 0),) * 31, (("fold", 0),) * 13, (("move", 0),) * 18 + (("fold", 0),) * 13, (("drop", 0, 1),) * 1000,
    nested(tuple, 99), (("fold", nested(tuple, 96)),), ("ab", "abc"), ("x" * 4000,), ((2, "fold"),), ((0, 1, "drop"),),
]

# What is no tuple of integers from the least to the greatest, of at most 10 ** 5 either way.
WRONG_LOT_NUMBERS = STRANGE + STRINGS + INTEGERS + [
    [0, 2], (None, 2), (0, None), ("0", 2), (0, "2"), ((0,), 2), (True, 2), (0, True), (False, 2), (2, 0), (0, -1),
    (10 ** 5 + 1, 10 ** 5 + 1), (0, 10 ** 5 + 1), (-10 ** 5 - 1, 0), (0, HUGE), (-HUGE, 0), (Keeper(()), 2), (0,) * 13,
    (0,) * 1000, nested(tuple, 99), "02",
]

WRONG_PRINTS = STRANGE + STRINGS + INTEGERS + [
    (), (0,), (None,), ("0:1",), ((0, 1),), ((), None), (((0, 1),), [(0, 1)]), (((0, 0),),), (((0, True),),),
    (((3, 1), (0, 1)),), (((0, 1), (0, 1)),), (((FAR + 1, 1),),), ((), ((0, 1), (0, 2))), ((),) * 9, ((),) * 1000,
    [((0, 1),)], [()], (long_strip(201),), (Keeper(()),), nested(tuple, 99), "ab",
]

PRIMES = (2, 3, 5, 7)


def plain_lay(spot, crease):
    """The spot on which a crease of a sheet lays a spot."""
    x, y = spot
    way, h = crease
    return {"x": (h - x, y), "y": (x, h - y), "less": (y + h, x - h), "sum": (h - y, h - x)}[way]


def plain_sheet_print(spot, row):
    """The sheet that comes of one drop, drop by drop."""
    spots = [spot]
    for crease in row:
        spots = spots + [plain_lay(other, crease) for other in spots]
    return strip_of(spots)


def made_sheet_row(rng, many=5, far=9, ways=("x", "y", "less", "sum")):
    """Some sheet row."""
    return tuple((rng.choice(ways), rng.randint(-far, far)) for _ in range(rng.randint(0, many)))


def plain_dry(place, folds, time):
    """The dry print of one drop: each drop tells how many folds it will print yet."""
    drops = [(place, time)]
    for h in folds:
        come = [(h - x, time) for x, left in drops if left > 0]
        drops = [(x, max(0, left - 1)) for x, left in drops] + come
    return strip_of([x for x, _ in drops])


def plain_life(places, log):
    """The list with one place for each drop that there is behind a log, there having been drops at some places."""
    drops = list(places)
    for deed in log:
        if deed[0] == "drop":
            drops = drops + [deed[1]] * deed[2]
        elif deed[0] == "fold":
            drops = plain_fold(drops, (deed[1],))
        else:
            drops = [x + deed[1] for x in drops]
    return drops


def made_deed(rng, far=6, most=3):
    """Some deed."""
    word = rng.choice(("drop", "fold", "fold", "move"))
    if word == "drop":
        return (word, rng.randint(-far, far), rng.randint(1, most))
    return (word, rng.randint(-far, far))


def made_log(rng, many=6, far=6, most=3):
    """Some log."""
    return tuple(made_deed(rng, far, most) for _ in range(rng.randint(0, many)))


def plain_ring_print(size, spot, folds):
    """For each place of a ring the drops that come of one drop."""
    drops = Counter([spot])
    for h in folds:
        more = Counter(drops)
        for x, many in drops.items():
            more[(h - x) % size] += many
        drops = more
    return tuple(drops[place] for place in range(size))


def plain_ended(places, folds, length):
    """The list with one place for each drop that comes of some on a paper with ends, walk by walk."""
    drops = list(places)
    for h in folds:
        come = [h - x for x in drops]
        drops += [x for x in come if x >= 0 and (length is None or x < length)]
    return drops


def plain_ended_print(place, folds, length):
    """The ended print of one drop, walk by walk."""
    return strip_of(plain_ended([place], folds, length))


def plainly_modulo(strip, prime):
    """A strip modulo a prime."""
    return tuple((place, drops % prime) for place, drops in strip if drops % prime)


def plain_wash(place, folds, prime):
    """The print of one drop modulo a prime, drop by drop."""
    return plainly_modulo(plain_print(place, folds), prime)
