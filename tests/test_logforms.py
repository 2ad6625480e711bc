"""wetfolds.logforms: logs that do the same to all strips, against what comes of several strips."""

import unittest
from itertools import combinations_with_replacement, product

from tests.support import made, made_log, plain_life, strip_of
from tests.test_lives import FIVE, TO_10000
from wetfolds.errors import TooMany
from wetfolds.logforms import are_like_logs, exchanged_deeds, log_form

DEEDS = (("drop", 0, 1), ("drop", 1, 1), ("fold", 0), ("fold", 1), ("fold", 2), ("move", 0), ("move", 1), ("move", -1))
STARTS = ([], [0], [1], [10 ** 6])


def plain_lives(log):
    """What tells logs apart: what comes of several strips, drop by drop."""
    return tuple(strip_of(plain_life(places, log)) for places in STARTS)


def plain_form(log):
    """The folds, with the moves ahead of each taken away, the shift, and the rest."""
    folds = []
    for at, deed in enumerate(log):
        if deed[0] == "fold":
            folds.append(deed[1] - 2 * sum(move[1] for move in log[:at] if move[0] == "move"))
    return (tuple(folds), sum(deed[1] for deed in log if deed[0] == "move"), strip_of(plain_life([], log)))


def exchanged(log, at):
    return log[:at] + (log[at + 1], log[at]) + log[at + 2:]


class LogForms(unittest.TestCase):
    def test_forms(self):
        rng = made(221)
        for _ in range(300):
            log = made_log(rng, 8)
            self.assertEqual(log_form(log), plain_form(log))
        self.assertEqual(log_form(()), ((), 0, ()))
        self.assertEqual(log_form((("move", 10 ** 4),) * 30), ((), 3 * 10 ** 5, ()))
        self.assertEqual(log_form((("move", -10 ** 4),) * 18 + (("fold", 2 * 10 ** 4),) * 12),
                         ((380000,) * 12, -180000, ()))

    def test_too_many_pairs(self):
        full = FIVE + TO_10000
        self.assertEqual(len(log_form(full)[2]), 10000)
        self.assertIs(are_like_logs(full, full), True)
        for more in ((("fold", 10000),), (("drop", -1, 1),)):
            for call in (lambda: log_form(full + more), lambda: are_like_logs(full + more, full),
                         lambda: are_like_logs((), full + more), lambda: are_like_logs(full + more, (("move", 1),)),
                         lambda: exchanged_deeds(full + more)):
                with self.assertRaises(TooMany) as caught:
                    call()
                self.assertEqual(caught.exception.limit, 10000)

    def test_too_many_pairs_only_when_exchanged(self):
        # A drop beside 9999 others makes 10000; laid there ahead of the last fold, it makes 10001.
        log = FIVE + TO_10000[:-1] + (("fold", 9998), ("drop", -1, 1))
        other = exchanged(log, len(log) - 2)
        self.assertEqual(len(log_form(log)[2]), 10000)
        for call in (lambda: log_form(other), lambda: exchanged_deeds(log), lambda: are_like_logs(log, other)):
            with self.assertRaises(TooMany) as caught:
                call()
            self.assertEqual(caught.exception.limit, 10000)


class LikeLogs(unittest.TestCase):
    def test_all_logs_of_a_few_deeds(self):
        logs = [log for many in range(3) for log in product(DEEDS, repeat=many)]
        lives = {log: plain_lives(log) for log in logs}
        for log, other in combinations_with_replacement(logs, 2):
            alike = lives[log] == lives[other]
            self.assertIs(are_like_logs(log, other), alike, (log, other))
            self.assertIs(are_like_logs(other, log), alike)

    def test_made_logs(self):
        rng = made(222)
        found = 0
        for _ in range(500):
            log = made_log(rng, 7, 3, 2)
            other = list(log)
            for _ in range(2):
                if len(other) > 1:
                    at = rng.randrange(len(other) - 1)
                    other[at], other[at + 1] = other[at + 1], other[at]
            if rng.random() < 0.3:
                other += [("move", rng.randint(-1, 1))]
            other = tuple(other)
            alike = plain_lives(log) == plain_lives(other)
            found += alike and log != other
            self.assertIs(are_like_logs(log, other), alike, (log, other))
        self.assertGreater(found, 30)

    def test_what_tells_apart(self):
        # One rest and one shift, and as many folds: the first ones, the last ones or the steps differ.
        for log, other, alike in (
            ((), (), True), ((("move", 1), ("move", -1)), (), True), ((("move", 1),), (("move", 2),), False),
            ((("fold", 0),), (("fold", 0), ("move", 1)), False), ((("fold", 0),), (("fold", 1),), False),
            ((("fold", 0), ("move", 1)), (("fold", 0), ("move", 2)), False), ((("fold", 0),), (), False),
            ((("fold", 0),), (("fold", 0), ("fold", 0)), False),
            ((("fold", 0), ("fold", 2)), (("fold", 0), ("fold", -2), ("move", 2)), True),
            ((("fold", 0), ("fold", 2)), (("fold", 0), ("fold", -2), ("move", 1)), False),
            ((("fold", 0), ("fold", 2)), (("fold", 2), ("fold", 0)), False),
            ((("fold", 0), ("fold", 2), ("fold", 6)), (("fold", 0), ("fold", 4), ("fold", 6)), True),
            ((("fold", 0), ("fold", 2), ("fold", 6)), (("fold", 0), ("fold", 3), ("fold", 6)), False),
            ((("drop", 0, 1),), (("drop", 0, 2),), False), ((("drop", 0, 1),), (("drop", 1, 1),), False),
            ((("drop", 0, 2),), (("drop", 0, 1), ("drop", 0, 1)), True),
            ((("drop", 0, 2), ("fold", 0)), (("fold", 0), ("drop", 0, 4)), True),
        ):
            self.assertEqual(plain_lives(log) == plain_lives(other), alike, (log, other))
            self.assertIs(are_like_logs(log, other), alike)
            self.assertIs(are_like_logs(other, log), alike)

    def test_shift_alone_without_folds(self):
        self.assertIs(are_like_logs((("move", 3),), (("move", 1), ("move", 2))), True)
        self.assertIs(are_like_logs((("drop", 0, 1), ("move", 1)), (("move", 1), ("drop", 1, 1))), True)
        self.assertIs(are_like_logs((("drop", 0, 1), ("move", 1)), (("drop", 1, 1),)), False)


class ExchangedDeeds(unittest.TestCase):
    def check(self, log):
        lives = plain_lives(log)
        right = [at for at in range(len(log) - 1) if plain_lives(exchanged(log, at)) == lives]
        self.assertEqual(exchanged_deeds(log), right, log)
        return right

    def test_all_logs_of_a_few_deeds(self):
        for many in range(4):
            for log in list(product(DEEDS, repeat=many))[::1 + many // 3 * 2]:
                self.check(log)

    def test_made_logs(self):
        rng = made(223)
        found = 0
        for _ in range(200):
            found += len(self.check(made_log(rng, 8, rng.choice((1, 2, 5)), 2)))
        self.assertGreater(found, 100)

    def test_none_one_and_thirty(self):
        self.assertEqual(exchanged_deeds(()), [])
        self.assertEqual(exchanged_deeds((("fold", 3),)), [])
        self.assertEqual(exchanged_deeds((("move", 3),) * 30), list(range(29)))
        log = (("drop", 0, 1), ("move", 1)) * 15
        self.assertEqual(exchanged_deeds(log), [])
        self.assertEqual(self.check((("fold", 4),) * 6), list(range(5)))


if __name__ == "__main__":
    unittest.main()
