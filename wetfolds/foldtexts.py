"""The texts of strips and of rows, written and read."""

from wetfolds.checks import FARTHEST_PLACE, MOST_FOLDS, MOST_PAIRS, check_folds, check_strip, is_crease
from wetfolds.errors import InvalidText

DIGITS = "0123456789"


def strip_text(strip):
    """The text of a strip."""
    check_strip(strip)
    if len(strip) == 0:
        return "."
    return " ".join([f"{place}:{drops}" for place, drops in strip])


def folds_text(folds):
    """The text of a row."""
    check_folds(folds)
    if len(folds) == 0:
        return "."
    return " ".join([crease_text(crease) for crease in folds])


def read_strip(text):
    """The strip whose text a string is; InvalidText with the index of the first wrong sign otherwise."""
    if begins_with_dot(text):
        return ()
    pairs = []
    at = 0
    least = -FARTHEST_PLACE
    while True:
        place, at = read_place(text, at, least)
        drops, at = read_drops(text, at)
        pairs.append((place, drops))
        if at == len(text):
            return tuple(pairs)
        # Behind the greatest place no further pair can follow, so that not even the blank goes on.
        if text[at] != " " or len(pairs) == MOST_PAIRS or place == FARTHEST_PLACE:
            raise InvalidText(at)
        at += 1
        least = place + 1


def read_folds(text):
    """The row whose text a string is; InvalidText with the index of the first wrong sign otherwise."""
    if begins_with_dot(text):
        return ()
    creases = []
    at = 0
    while True:
        crease, at = read_crease(text, at)
        creases.append(crease)
        if at == len(text):
            return tuple(creases)
        if text[at] != " " or len(creases) == MOST_FOLDS:
            raise InvalidText(at)
        at += 1


def crease_text(crease):
    """The text of a crease."""
    if crease % 2 == 0:
        return f"{crease // 2}"
    return f"{crease}/2"


def begins_with_dot(text):
    """Whether a string is "."; InvalidText for what is no string, or goes on behind a first dot."""
    if not isinstance(text, str):
        raise InvalidText(0)
    if text[:1] != ".":
        return False
    if len(text) > 1:
        raise InvalidText(1)
    return True


def read_place(text, at, least):
    """The place, not less than the least one, that stands at an index, and the index behind its colon."""
    begin = at
    while at < len(text) and begins_place(text[begin:at + 1], least):
        at += 1
    signs = text[begin:at]
    if text[at:at + 1] != ":" or not is_number(signs) or int(signs) < least:
        raise InvalidText(at)
    return int(signs), at + 1


def read_drops(text, at):
    """The number of drops that stands at an index, and the index behind it."""
    begin = at
    while at < len(text) and text[at] in DIGITS:
        at += 1
    if at == begin or text[begin] == "0":
        raise InvalidText(begin)
    return number_of(text[begin:at]), at


def read_crease(text, at):
    """The crease that stands at an index, and the index behind it."""
    begin = at
    while at < len(text) and begins_crease(text[begin:at + 1]):
        at += 1
    crease = crease_of(text[begin:at])
    if crease is None:
        raise InvalidText(at)
    return crease, at


def is_number(signs):
    """Whether signs are an integer as Python writes it."""
    digits = signs[1:] if signs[:1] == "-" else signs
    if digits == "" or not all([sign in DIGITS for sign in digits]):
        return False
    return digits[0] != "0" or signs == "0"


def number_of(digits):
    """The integer that digits tell; digit by digit, as Python itself refuses to read very many."""
    number = 0
    for digit in digits:
        number = 10 * number + int(digit)
    return number


def begins_place(signs, least):
    """Whether the text of some place, not less than the least one, begins with the signs."""
    if signs == "-":
        return least < 0
    if not is_number(signs):
        return False
    number = int(signs)
    # Further digits lead a number below 0 only further down.
    if number <= 0:
        return number >= least
    low, high = number, number
    while low <= FARTHEST_PLACE:
        if high >= least:
            return True
        low, high = 10 * low, 10 * high + 9
    return False


def begins_crease(signs):
    """Whether the text of some crease begins with the signs."""
    if signs == "-":
        return True
    digits, slash, two = signs.partition("/")
    if not is_number(digits) or two not in ("", "2"):
        return False
    number = int(digits)
    # Creases that are told halved are odd; a whole number beyond the half of the limit can still be one
    # of these. A longer number begins with a lesser one, which can always stand alone.
    if number % 2 == 1 and is_crease(number):
        return True
    return slash == "" and is_crease(2 * number)


def crease_of(signs):
    """The crease that has the signs as its text; None if its text only begins with them."""
    digits, slash, two = signs.partition("/")
    if two == "2":
        return int(digits)
    if slash == "" and is_number(digits) and is_crease(2 * int(digits)):
        return 2 * int(digits)
    return None
