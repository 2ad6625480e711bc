"""wetfolds.foldtexts: texts of strips and rows, written, read back, and refused at the right sign."""

import unittest
from functools import lru_cache
from itertools import product

from tests.support import FAR, HUGE, made, made_folds, made_strip
from wetfolds.errors import InvalidText
from wetfolds.foldtexts import folds_text, read_folds, read_strip, strip_text

TOP = 10 ** 6


def whole(text):
    """The integer whose text this is, or None."""
    digits = text[1:] if text.startswith("-") else text
    if digits == "" or any(sign not in "0123456789" for sign in digits):
        return None
    return int(text) if str(int(text)) == text else None


def said_strip(text):
    """The strip whose text this is, or None: read as a whole, without a thought of where it goes wrong."""
    if text == ".":
        return ()
    pairs = []
    for part in text.split(" "):
        place, colon, drops = part.partition(":")
        pair = (whole(place), whole(drops))
        if colon == "" or None in pair or abs(pair[0]) > FAR or pair[1] < 1 or pairs and pairs[-1][0] >= pair[0]:
            return None
        pairs.append(pair)
    return tuple(pairs) if len(pairs) <= 200 else None


def said_folds(text):
    """The row whose text this is, or None."""
    if text == ".":
        return ()
    creases = []
    for part in text.split(" "):
        number, slash, rest = part.partition("/")
        half = whole(number)
        if half is None or rest != ("2" if slash else "") or slash and half % 2 == 0:
            return None
        creases.append(half if slash else 2 * half)
    return tuple(creases) if len(creases) <= 12 and all(abs(h) <= TOP for h in creases) else None


# If any text goes on from a beginning, then one of these makes it a text.
STRIP_ENDS = ["", "1", ":1", "1:1", str(FAR) + ":1"]
STRIP_ENDS += [sign * many + ":1" for sign in "09" for many in range(1, 11)]
FOLDS_ENDS = ["", "1", "2", "/2"]


def first_wrong(text, said, ends):
    """The index at which a text goes wrong, or None for a right one: found by trying ends behind each beginning."""
    for at in range(len(text)):
        if all(said(text[:at + 1] + end) is None for end in ends):
            return at
    return None if said(text) is not None else len(text)


class Texts(unittest.TestCase):
    def check_wrong(self, function, text, at):
        with self.assertRaises(InvalidText) as caught:
            function(text)
        self.assertEqual(caught.exception.at, at, (function.__name__, text[:60]))

    def check_as_said(self, function, text, said, ends):
        at = first_wrong(text, said, ends)
        if at is None:
            self.assertEqual(function(text), said(text))
        else:
            self.check_wrong(function, text, at)

    def test_written(self):
        self.assertEqual(strip_text(()), ".")
        self.assertEqual(strip_text(((0, 1),)), "0:1")
        self.assertEqual(strip_text(((-FAR, HUGE), (FAR, 10))), f"-1000000000:{HUGE} 1000000000:10")
        self.assertEqual(folds_text(()), ".")
        self.assertEqual(folds_text((0,)), "0")
        self.assertEqual(folds_text((1, -1, 3, -3)), "1/2 -1/2 3/2 -3/2")
        self.assertEqual(folds_text((2, -2, TOP, -TOP)), "1 -1 500000 -500000")
        self.assertEqual(folds_text((TOP - 1, 1 - TOP)), "999999/2 -999999/2")

    def test_read_back(self):
        rng = made(10)
        strips = [made_strip(rng, 8, 10 ** rng.randint(1, 9), 10 ** rng.randint(1, 40)) for _ in range(300)]
        strips += [(), ((-FAR, HUGE), (FAR, HUGE)), tuple((x * 7 - 700, x + 1) for x in range(200))]
        for strip in strips:
            self.assertEqual(read_strip(strip_text(strip)), strip)
            self.assertEqual(said_strip(strip_text(strip)), strip)
        rows = [made_folds(rng, 12, 10 ** rng.randint(1, 6)) for _ in range(300)]
        rows += [(), (TOP, -TOP, TOP - 1, 1 - TOP) * 3, (0,) * 12] + [(h,) for h in range(-30, 31)]
        for row in rows:
            self.assertEqual(read_folds(folds_text(row)), row)
            self.assertEqual(said_folds(folds_text(row)), row)

    def test_drops_of_whatever_size(self):
        many = int("123456789" * 440)
        self.assertEqual(read_strip(f"5:{many}"), ((5, many),))
        self.assertEqual(read_strip("5:1" + "0" * 3990), ((5, int("1" + "0" * 3990)),))
        self.assertEqual(strip_text(((5, many),)), f"5:{many}")

    def test_empty_and_dots(self):
        for function in (read_strip, read_folds):
            self.assertEqual(function("."), ())
            self.check_wrong(function, "", 0)
            for text in ("..", ". ", ".0", ".\n"):
                self.check_wrong(function, text, 1)
            for text in (" ", " .", "\n", "x", "+1", ":", "/", "_1", "x" * 4000):
                self.check_wrong(function, text, 0)
            for text in ("-", "-0", "- 1", "--1", "-."):
                self.check_wrong(function, text, 1)

    def test_wrong_strips(self):
        for text, at in (
            ("0", 1), ("0:", 2), ("00", 1), ("01", 1), ("0 ", 1), ("0/", 1), ("1.", 1), ("-1", 2), ("-1:", 3),
            ("0:0", 2), ("0:-1", 2), ("0:+1", 2), ("0: 1", 2), ("0::1", 2), ("0:01", 2), ("0:1:", 3), ("0:1.", 3),
            ("0:1 ", 4), ("0:1  ", 4), ("0:1\n", 3), ("0:1,1:1", 3), ("0:1 .", 4), ("0:1 0", 4), ("0:1 -", 4),
            ("0:1 1", 5), ("3:1 -1:1", 4), ("3:1 3:1", 5), ("3:1 2:1", 5), ("3:1 2", 5), ("3:1 20:1 3:1", 10),
            ("-3:1 -4:1", 6), ("-3:1 -30:1", 6), ("-3:1 -3:1", 6), ("-3:1 -2:1 -2:1", 11), ("-1:1 -", 5),
            ("-2:1 -", 6), ("-2:1 -1", 7), ("1000000000:1 ", 12), ("1000000000:1", None), ("1000000001", 9),
            ("10000000000", 10), ("1000000000", 10), ("2000000000", 9), ("999999999", 9), ("9999999990", 9),
            ("-1000000001", 10), ("-1000000000:1", None), ("-9999999999", 10), ("999999999:1 1", 13),
            ("999999999:1 2", 12), ("999999999:1 10", 14), ("999999999:1 1000000000:1", None),
            ("999999999:1 1000000000:1 ", 24), ("500:1 5", 7), ("500:1 50:1", 8), ("500:1 500:", 9),
            ("500:1 501:1", None), ("500:1 4", 7), ("999999998:1 9", 13), ("999999998:1 99999999", 20),
            ("999999998:1 999999998:", 20), ("999999998:1 999999999:1 1", 25), ("-10:1 -100", 8), ("-10:1 -9", 8),
        ):
            self.assertEqual(first_wrong(text, said_strip, STRIP_ENDS), at, text)
            if at is None:
                self.assertEqual(read_strip(text), said_strip(text))
            else:
                self.check_wrong(read_strip, text, at)

    def test_wrong_rows(self):
        for text, at in (
            ("00", 1), ("01", 1), ("0/2", 1), ("1/", 2), ("1/1", 2), ("1/2/", 3), ("1/2.", 3), ("1/22", 3),
            ("4/2", 1), ("2/2", 1), ("10/2", 2), ("-4/2", 2), ("-1/2", None), ("1 ", 2), ("1  ", 2), ("1\n", 1),
            ("1 .", 2), ("1 00", 3), ("1,2", 1), ("3/2 4/2", 5), ("500000", None), ("-500000", None), ("500001", 6),
            ("500001/2", None), ("500002", 5), ("-500002", 6), ("500000/2", 6), ("500001 ", 6), ("600000", 5),
            ("999999/2", None), ("999999", 6), ("-999999/2", None), ("1000000", 6), ("1000001/2", 6), ("999998", 5),
            ("5000000", 6), ("50000", None), ("50001/2", None), ("9999999", 6), ("-1000000", 7), ("1 -", 3),
            ("1 -0", 3), ("1 1000000", 8), ("7:1", 1), ("1//2", 2), ("/2", 0), ("-/2", 1),
        ):
            self.assertEqual(first_wrong(text, said_folds, FOLDS_ENDS), at, text)
            if at is None:
                self.assertEqual(read_folds(text), said_folds(text))
            else:
                self.check_wrong(read_folds, text, at)

    def test_too_many_pairs(self):
        pairs = [f"{x}:1" for x in range(-100, 101)]
        self.assertEqual(len(read_strip(" ".join(pairs[:200]))), 200)
        text = " ".join(pairs[:200])
        self.check_wrong(read_strip, " ".join(pairs), len(text))
        self.check_wrong(read_strip, text + " ", len(text))
        self.check_wrong(read_strip, text + ":", len(text))
        text = " ".join(pairs[:199])
        self.check_wrong(read_strip, text + " ", len(text) + 1)

    def test_too_many_folds(self):
        for crease in ("0", "1/2", "-7"):
            text = " ".join([crease] * 12)
            self.assertEqual(len(read_folds(text)), 12)
            self.check_wrong(read_folds, " ".join([crease] * 13), len(text))
            self.check_wrong(read_folds, text + " ", len(text))
            text = " ".join([crease] * 11)
            self.check_wrong(read_folds, text + " ", len(text) + 1)

    def test_all_short_texts(self):
        for signs, said, ends, function in (
            ("01-: .", said_strip, STRIP_ENDS, read_strip), ("012-/ .", said_folds, FOLDS_ENDS, read_folds),
        ):
            goes_on = lru_cache(maxsize=None)(lambda text: any(said(text + end) is not None for end in ends))
            for many in range(6):
                for chosen in product(signs, repeat=many):
                    text = "".join(chosen)
                    wrong = [at for at in range(many) if not goes_on(text[:at + 1])]
                    if wrong:
                        self.check_wrong(function, text, wrong[0])
                    elif said(text) is None:
                        self.check_wrong(function, text, many)
                    else:
                        self.assertEqual(function(text), said(text))

    def test_changed_texts(self):
        rng = made(11)
        for _ in range(1500):
            far = 10 ** rng.randint(1, 9)
            text = strip_text(made_strip(rng, 5, far, 120))
            self.check_as_said(read_strip, changed(rng, text, "0123456789-: "), said_strip, STRIP_ENDS)
            text = folds_text(made_folds(rng, 5, 10 ** rng.randint(1, 6)))
            self.check_as_said(read_folds, changed(rng, text, "0123456789-/ "), said_folds, FOLDS_ENDS)

    def test_places_near_the_one_ahead(self):
        rng = made(12)
        for _ in range(1500):
            place = rng.choice((-1, 1)) * rng.randint(0, 10 ** rng.randint(1, 9))
            further = place + rng.choice((-1, 0, 1)) * 10 ** rng.randint(0, 9) + rng.randint(-1, 1)
            self.check_as_said(read_strip, f"{place}:1 {further}:1", said_strip, STRIP_ENDS)


def changed(rng, text, signs):
    """A text with one sign left out, put in, or exchanged for another one, or cut."""
    at = rng.randint(0, len(text))
    way = rng.randint(0, 3)
    if way == 0:
        return text[:at] + text[at + 1:]
    if way == 1:
        return text[:at] + rng.choice(signs) + text[at:]
    if way == 2:
        return text[:at] + rng.choice(signs) + text[at + 1:]
    return text[:at]


if __name__ == "__main__":
    unittest.main()
