"""What arguments must be: the checks that the other files share."""

from wetfolds.errors import (
    EmptyLot, InvalidCrease, InvalidFolds, InvalidLot, InvalidNumber, InvalidPlace, InvalidPrime, InvalidStrip,
    NoFolds, TooMany,
)

FARTHEST_PLACE = 10 ** 9
GREATEST_CREASE = 10 ** 6
MOST_PAIRS = 200
MOST_FOLDS = 12
MOST_SHORT_FOLDS = 8
PRIMES = (2, 3, 5, 7)
FARTHEST_LOT_PLACE = 10 ** 5
MOST_LOT_PLACES = 256


def is_whole(value):
    """Whether a value is an integer; True and False are none."""
    return isinstance(value, int) and not isinstance(value, bool)


def is_from_to(value, least, greatest):
    """Whether a value is an integer from one to another one."""
    return is_whole(value) and least <= value <= greatest


def is_place(value):
    """Whether a value is a place that can be handed in."""
    return is_from_to(value, -FARTHEST_PLACE, FARTHEST_PLACE)


def is_crease(value):
    """Whether a value is a crease."""
    return is_from_to(value, -GREATEST_CREASE, GREATEST_CREASE)


def is_tuple_up_to(value, most):
    """Whether a value is a tuple of at most so many items."""
    return isinstance(value, tuple) and len(value) <= most


def is_pair(value):
    """Whether a value is a place with drops; how many drops has no limit."""
    if not isinstance(value, tuple) or len(value) != 2:
        return False
    return is_place(value[0]) and is_whole(value[1]) and value[1] >= 1


def fits_strip(value):
    """Whether a value is a strip that can be handed in."""
    if not is_tuple_up_to(value, MOST_PAIRS) or not all([is_pair(item) for item in value]):
        return False
    return all([here[0] < further[0] for here, further in zip(value, value[1:])])


def fits_folds(value):
    """Whether a value is a row of folds."""
    return is_tuple_up_to(value, MOST_FOLDS) and all([is_crease(item) for item in value])


def are_steps(value, greatest):
    """Whether a value is a tuple of steps of a row, from the least to the greatest, none above a limit."""
    if not is_tuple_up_to(value, MOST_FOLDS - 1):
        return False
    if not all([is_from_to(step, 0, greatest) for step in value]):
        return False
    return all([step <= further for step, further in zip(value, value[1:])])


def fits_lot(value):
    """Whether a value is a lot that can be handed in."""
    if not is_tuple_up_to(value, MOST_LOT_PLACES):
        return False
    if not all([is_from_to(item, -FARTHEST_LOT_PLACE, FARTHEST_LOT_PLACE) for item in value]):
        return False
    return all([place < further for place, further in zip(value, value[1:])])


def check_strip(value):
    """Raise InvalidStrip for what is no strip."""
    if not fits_strip(value):
        raise InvalidStrip("no strip")


def check_folds(value):
    """Raise InvalidFolds for what is no row of folds."""
    if not fits_folds(value):
        raise InvalidFolds("no row of folds")


def check_some_folds(value):
    """Raise InvalidFolds for what is no row of folds, NoFolds for a row without one."""
    check_folds(value)
    if len(value) == 0:
        raise NoFolds("no fold")


def check_crease(value):
    """Raise InvalidCrease for what is no crease."""
    if not is_crease(value):
        raise InvalidCrease("no crease")


def check_place(value):
    """Raise InvalidPlace for what is no place that can be handed in."""
    if not is_place(value):
        raise InvalidPlace("no place")


def check_number(value, least, greatest):
    """Raise InvalidNumber for what is no integer from one to another one."""
    if not is_from_to(value, least, greatest):
        raise InvalidNumber(f"no integer from {least} to {greatest}")


def check_prime(value):
    """Raise InvalidPrime for what is none of the primes."""
    if not is_whole(value) or value not in PRIMES:
        raise InvalidPrime("none of the primes 2, 3, 5 and 7")


def check_lot(value):
    """Raise InvalidLot for what is no lot."""
    if not fits_lot(value):
        raise InvalidLot("no lot")


def check_some_places(value):
    """Raise InvalidLot for what is no lot, EmptyLot for a lot without a place."""
    check_lot(value)
    if len(value) == 0:
        raise EmptyLot("no place in the lot")


def check_short(folds):
    """Raise TooMany for a row with too many folds where it must be short."""
    if len(folds) > MOST_SHORT_FOLDS:
        raise TooMany(MOST_SHORT_FOLDS)
