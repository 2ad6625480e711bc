"""wetfolds.keepers: keepers, beside a plain list of deeds."""

import copy
import inspect
import unittest

from tests.support import (
    FAR, HUGE, STRANGE, WRONG_STRIPS, drops_of, long_strip, made, made_deed, made_strip, plain_life, strip_of,
    wrong_integers,
)
from tests.test_lives import FIVE, TO_10000
from wetfolds.errors import (
    FoldError, InvalidCrease, InvalidNumber, InvalidPlace, InvalidStrip, NothingToRedo, NothingToUndo, TooMany,
)
from wetfolds.keepers import Keeper
from wetfolds.strips import is_strip

DEED_FAR = 10 ** 4
DEED_CREASE = 2 * 10 ** 4
MOST = 10 ** 6


class Stop(Exception):
    """An error that is none of the package."""


class Halt(BaseException):
    """An error that few handlers catch."""


class Plain:
    """A strip with a plain list of deeds, and of those taken back."""

    def __init__(self, strip):
        self.strip, self.deeds, self.undone = strip, [], []

    def refused(self, deed):
        """The error that a deed of right integers raises, or None."""
        if len(self.deeds) >= 30:
            return TooMany, 30
        if deed[0] == "fold" and [word for word, *_ in self.deeds].count("fold") >= 12:
            return TooMany, 12
        return None

    def do(self, deed):
        self.deeds.append(deed)
        self.undone = []

    def undo(self):
        self.undone.append(self.deeds.pop())

    def redo(self):
        self.deeds.append(self.undone.pop())

    def standing(self):
        return strip_of(plain_life(drops_of(self.strip), self.deeds))


def seen(keeper):
    """All that can be seen of a keeper."""
    return keeper.log, keeper.standing, keeper.total, len(keeper)


def all_of(keeper):
    """All that can be seen of a keeper, and of what can be undone and redone; it is left as it was."""
    other = copy.deepcopy(keeper)
    told = [seen(other)]
    while True:
        try:
            other.redo()
        except NothingToRedo:
            break
        told.append(seen(other))
    while True:
        try:
            other.undo()
        except NothingToUndo:
            break
        told.append(seen(other))
    return told


def do(keeper, deed):
    """Do a deed by its method."""
    return getattr(keeper, deed[0])(*deed[1:])


def kept(strip, *deeds):
    keeper = Keeper(strip)
    for deed in deeds:
        do(keeper, deed)
    return keeper


class Keepers(unittest.TestCase):
    def refuse(self, keeper, error, method, *values, limit=None):
        """A call raises an error, and changes nothing."""
        before = all_of(keeper)
        with self.assertRaises(FoldError) as caught:
            getattr(keeper, method)(*values)
        self.assertIs(caught.exception.__class__, error, (method, values))
        if limit is not None:
            self.assertEqual(caught.exception.limit, limit)
        self.assertEqual(all_of(keeper), before)

    def same(self, keeper, plain):
        standing = plain.standing()
        self.assertEqual(seen(keeper), (tuple(plain.deeds), standing, sum(many for _, many in standing),
                                        len(plain.deeds)))


class BesidePlainLists(Keepers):
    def test_many_calls(self):
        for seed in range(40):
            rng = made(2400 + seed)
            strip = made_strip(rng, 3, 5, 2)
            keeper, plain = Keeper(strip), Plain(strip)
            for _ in range(40):
                self.call(rng, keeper, plain)
                self.same(keeper, plain)

    def call(self, rng, keeper, plain):
        """One call of the keeper and of the plain list, right or refused."""
        word = rng.choice(("deed", "deed", "deed", "undo", "undo", "redo", "wrong"))
        if word == "deed":
            deed = made_deed(rng)
            folds = [name for name, *_ in plain.deeds].count("fold")
            if deed[0] == "fold" and folds >= 6:
                deed = ("move", deed[1])
            refused = plain.refused(deed)
            if refused:
                self.refuse(keeper, refused[0], deed[0], *deed[1:], limit=refused[1])
            else:
                self.assertIsNone(do(keeper, deed))
                plain.do(deed)
        elif word == "undo" and plain.deeds:
            self.assertIsNone(keeper.undo())
            plain.undo()
        elif word == "undo":
            self.refuse(keeper, NothingToUndo, "undo")
        elif word == "redo" and plain.undone:
            self.assertIsNone(keeper.redo())
            plain.redo()
        elif word == "redo":
            self.refuse(keeper, NothingToRedo, "redo")
        else:
            self.refuse(keeper, InvalidCrease, "fold", None)

    def test_a_keeper_without_deeds(self):
        for strip in ((), ((1, 1),), long_strip(200), ((-FAR, HUGE), (FAR, 1))):
            keeper = Keeper(strip)
            self.assertEqual(seen(keeper), ((), strip, sum(many for _, many in strip), 0))
            self.refuse(keeper, NothingToUndo, "undo")
            self.refuse(keeper, NothingToRedo, "redo")

    def test_what_deeds_do(self):
        keeper = kept(((1, 1),), ("drop", 0, 2), ("fold", 3), ("move", -4))
        self.assertEqual(seen(keeper), ((("drop", 0, 2), ("fold", 3), ("move", -4)),
                                        ((-4, 2), (-3, 1), (-2, 1), (-1, 2)), 6, 3))


class UndoAndRedo(Keepers):
    def test_behind_each_other(self):
        keeper = kept((), ("drop", 0, 1), ("fold", 1), ("move", 2))
        stands = [(), ((0, 1),), ((0, 1), (1, 1)), ((2, 1), (3, 1))]
        for _ in range(2):
            for many in (2, 1, 0):
                self.assertIsNone(keeper.undo())
                self.assertEqual((len(keeper), keeper.standing), (many, stands[many]))
            self.refuse(keeper, NothingToUndo, "undo")
            for many in (1, 2, 3):
                self.assertIsNone(keeper.redo())
                self.assertEqual((len(keeper), keeper.standing), (many, stands[many]))
            self.refuse(keeper, NothingToRedo, "redo")

    def test_redo_does_the_last_one_that_was_taken_back(self):
        keeper = kept((), ("move", 1), ("move", 2), ("move", 3))
        keeper.undo()
        keeper.undo()
        keeper.redo()
        self.assertEqual(keeper.log, (("move", 1), ("move", 2)))
        keeper.undo()
        keeper.redo()
        keeper.redo()
        self.assertEqual(keeper.log, (("move", 1), ("move", 2), ("move", 3)))

    def test_behind_a_new_deed(self):
        for deed in (("drop", 1, 1), ("fold", 5), ("move", 0)):
            keeper = kept((), ("move", 1), ("move", 2), ("move", 3))
            keeper.undo()
            keeper.undo()
            do(keeper, deed)
            self.refuse(keeper, NothingToRedo, "redo")
            self.assertEqual(keeper.log, (("move", 1), deed))
            keeper.undo()
            keeper.redo()
            self.assertEqual(keeper.log, (("move", 1), deed))

    def test_behind_an_error(self):
        keeper = kept((), ("move", 1), ("move", 2))
        keeper.undo()
        self.refuse(keeper, InvalidCrease, "fold", DEED_CREASE + 1)
        self.refuse(keeper, InvalidNumber, "drop", 0, 0)
        self.refuse(keeper, InvalidPlace, "drop", True, 1)
        keeper.redo()
        self.assertEqual(keeper.log, (("move", 1), ("move", 2)))


class Limits(Keepers):
    def test_thirty_deeds(self):
        keeper = kept((), *[("move", k) for k in range(29)])
        keeper.drop(0, 1)
        for method, values in (("drop", (0, 1)), ("fold", (0,)), ("move", (0,))):
            self.refuse(keeper, TooMany, method, *values, limit=30)
        self.assertEqual(len(keeper), 30)
        # Deeds taken back do not count.
        keeper.undo()
        keeper.fold(0)
        self.refuse(keeper, TooMany, "fold", 0, limit=30)

    def test_twelve_folds(self):
        keeper = kept(((0, 1),), *[("fold", 0)] * 12)
        self.refuse(keeper, TooMany, "fold", 0, limit=12)
        keeper.move(1)
        keeper.drop(3, 1)
        keeper.undo()
        keeper.undo()
        keeper.undo()
        keeper.fold(2)
        self.refuse(keeper, TooMany, "fold", 0, limit=12)
        self.assertEqual(keeper.total, 4096)

    def test_ten_thousand_pairs(self):
        keeper = kept((), *FIVE, *TO_10000)
        self.assertEqual([x for x, _ in keeper.standing], list(range(10000)))
        self.refuse(keeper, TooMany, "fold", 10000, limit=10000)
        self.refuse(keeper, TooMany, "drop", 10000, 1, limit=10000)
        self.refuse(keeper, TooMany, "drop", -1, 1, limit=10000)
        keeper.drop(9999, 1)
        keeper.move(1)
        self.refuse(keeper, TooMany, "drop", 0, 1, limit=10000)
        keeper.undo()
        self.refuse(keeper, TooMany, "fold", -1, limit=10000)
        keeper.redo()
        keeper.fold(10001)
        self.assertEqual(len(keeper.standing), 10000)
        self.refuse(keeper, TooMany, "fold", -1, limit=12)

    def test_the_order_of_the_limits(self):
        # 30 deeds, 12 folds and 10000 pairs at once: the number of deeds is told first.
        keeper = kept((), *FIVE, *TO_10000, ("fold", 9999), *[("move", 0)] * 12)
        self.assertEqual((len(keeper), len(keeper.standing)), (29, 10000))
        self.refuse(keeper, TooMany, "fold", 10000, limit=12)
        self.refuse(keeper, TooMany, "drop", 10000, 1, limit=10000)
        keeper.move(0)
        self.refuse(keeper, TooMany, "fold", 10000, limit=30)
        self.refuse(keeper, TooMany, "drop", 10000, 1, limit=30)
        self.refuse(keeper, TooMany, "move", 0, limit=30)
        # Wrong arguments are told ahead of all that.
        self.refuse(keeper, InvalidCrease, "fold", DEED_CREASE + 1)
        self.refuse(keeper, InvalidPlace, "drop", DEED_FAR + 1, 0)
        self.refuse(keeper, InvalidNumber, "drop", 0, 0)
        self.refuse(keeper, InvalidNumber, "move", None)

    def test_integers_at_their_limits(self):
        keeper = Keeper(((0, 1),))
        for deed in (("drop", DEED_FAR, MOST), ("drop", -DEED_FAR, 1), ("fold", DEED_CREASE), ("fold", -DEED_CREASE),
                     ("move", DEED_FAR), ("move", -DEED_FAR)):
            self.assertIsNone(do(keeper, deed))
            self.assertEqual(keeper.log[-1], deed)
        drops = plain_life([-DEED_FAR, 0], (("fold", DEED_CREASE), ("fold", -DEED_CREASE)))
        far = plain_life([DEED_FAR], (("fold", DEED_CREASE), ("fold", -DEED_CREASE)))
        self.assertEqual(keeper.total, len(drops) + MOST * len(far))
        self.assertEqual(dict(keeper.standing)[DEED_FAR], drops.count(DEED_FAR) + MOST * far.count(DEED_FAR))


class WrongArguments(Keepers):
    def test_strips(self):
        for wrong in WRONG_STRIPS:
            with self.assertRaises(FoldError) as caught:
                Keeper(wrong)
            self.assertIs(caught.exception.__class__, InvalidStrip)

    def test_integers_of_deeds(self):
        keeper = kept((), ("move", 1), ("move", 2))
        keeper.undo()
        for wrong in wrong_integers(-DEED_FAR, DEED_FAR):
            self.refuse(keeper, InvalidPlace, "drop", wrong, 1)
            self.refuse(keeper, InvalidPlace, "drop", wrong, 0)
            self.refuse(keeper, InvalidNumber, "move", wrong)
        for wrong in wrong_integers(1, MOST):
            self.refuse(keeper, InvalidNumber, "drop", 0, wrong)
        for wrong in wrong_integers(-DEED_CREASE, DEED_CREASE):
            self.refuse(keeper, InvalidCrease, "fold", wrong)
        for wrong in STRANGE:
            self.refuse(keeper, InvalidPlace, "drop", wrong, wrong)
        self.assertEqual(keeper.log, (("move", 1),))
        keeper.redo()
        self.assertEqual(keeper.log, (("move", 1), ("move", 2)))


class Attempts(Keepers):
    def test_a_function_that_returns(self):
        keeper = kept(((1, 1),), ("move", 1))
        given = []
        answer = [1]
        self.assertIs(keeper.attempt(lambda known: given.append(known) or answer), answer)
        self.assertIs(given[0], keeper)
        self.assertEqual(keeper.attempt(len), 1)
        self.assertIsNone(keeper.attempt(lambda known: known.fold(3)))
        self.assertEqual(keeper.log, (("move", 1), ("fold", 3)))
        self.assertIsNone(keeper.attempt(Keeper.undo))
        self.assertIsNone(keeper.attempt(Keeper.undo))
        self.assertEqual(keeper.log, ())
        self.assertIsNone(keeper.attempt(Keeper.redo))
        self.assertEqual(keeper.log, (("move", 1),))
        keeper.redo()
        self.assertEqual(keeper.log, (("move", 1), ("fold", 3)))

    def fail(self, error):
        """A function that does deeds, takes some back, and ends with an error."""
        def action(keeper):
            keeper.undo()
            keeper.redo()
            keeper.undo()
            keeper.drop(5, 5)
            keeper.fold(3)
            keeper.undo()
            keeper.move(1)
            raise error
        return action

    def test_a_function_that_ends_with_an_error(self):
        for error in (Stop("x"), Halt(), InvalidStrip("x"), TooMany(7), ValueError("x"), KeyError(1), StopIteration(),
                      KeyboardInterrupt(), NothingToUndo("x")):
            keeper = kept(((1, 1),), ("move", 1), ("fold", 2), ("drop", 0, 3))
            keeper.undo()
            before = all_of(keeper)
            with self.assertRaises(BaseException) as caught:
                keeper.attempt(self.fail(error))
            self.assertIs(caught.exception, error)
            self.assertEqual(all_of(keeper), before)
            keeper.redo()
            self.assertEqual(keeper.log, (("move", 1), ("fold", 2), ("drop", 0, 3)))

    def test_an_error_of_the_keeper_itself(self):
        keeper = kept((), ("move", 1))
        keeper.undo()

        def action(known):
            known.drop(0, 1)
            known.fold(DEED_CREASE + 1)

        self.refuse(keeper, InvalidCrease, "attempt", action)

        def empty(known):
            known.redo()
            known.redo()

        self.refuse(keeper, NothingToRedo, "attempt", empty)
        self.assertEqual(keeper.log, ())
        keeper.redo()
        self.assertEqual(keeper.log, (("move", 1),))

    def test_an_error_that_is_caught_within(self):
        keeper = Keeper(())

        def action(known):
            known.drop(0, 1)
            try:
                known.fold(None)
            except InvalidCrease:
                known.move(2)
            return "done"

        self.assertEqual(keeper.attempt(action), "done")
        self.assertEqual(keeper.log, (("drop", 0, 1), ("move", 2)))

    def test_one_within_another_one(self):
        keeper = kept((), ("move", 1))

        def outer(known):
            known.move(2)
            before = all_of(known)
            with self.assertRaises(Stop):
                known.attempt(self.fail(Stop("inner")))
            self.assertEqual(all_of(known), before)
            known.move(3)
            return known.attempt(lambda again: again.move(4))

        self.assertIsNone(keeper.attempt(outer))
        self.assertEqual(keeper.log, (("move", 1), ("move", 2), ("move", 3), ("move", 4)))

        def failing(known):
            known.undo()
            known.attempt(lambda again: again.drop(1, 1))
            self.assertEqual(known.log[-1], ("drop", 1, 1))
            raise Stop("outer")

        before = all_of(keeper)
        with self.assertRaises(Stop):
            keeper.attempt(failing)
        self.assertEqual(all_of(keeper), before)

    def test_two_keepers(self):
        keeper, other = kept((), ("move", 1)), kept((), ("move", 2))

        def action(known):
            known.move(5)
            other.move(6)
            raise Stop("x")

        with self.assertRaises(Stop):
            keeper.attempt(action)
        self.assertEqual(keeper.log, (("move", 1),))
        self.assertEqual(other.log, (("move", 2), ("move", 6)))

    def test_what_is_no_function(self):
        keeper = kept((), ("move", 1))
        before = all_of(keeper)
        with self.assertRaises(TypeError):
            keeper.attempt(None)
        self.assertEqual(all_of(keeper), before)


class Objects(Keepers):
    def test_equality(self):
        deeds = (("drop", 0, 1), ("fold", 2))
        one = kept(((1, 1),), *deeds)
        self.assertTrue(one == one)
        self.assertTrue(one == kept(((1, 1),), *deeds))
        self.assertFalse(one != kept(((1, 1),), *deeds))
        other = kept(((1, 1),), *deeds, ("move", 1))
        self.assertFalse(one == other)
        self.assertTrue(one != other)
        # What was taken back does not count.
        other.undo()
        self.assertTrue(one == other)
        for unlike in (kept((), *deeds), kept(((1, 2),), *deeds), kept(((1, 1),), *deeds[::-1]), Keeper(((1, 1),)),
                       kept(((1, 1),), ("drop", 0, 1))):
            self.assertFalse(one == unlike)
            self.assertFalse(unlike == one)
        # The same strip stands, but the first strips and the logs are others.
        self.assertEqual(kept((), ("drop", 0, 1)).standing, Keeper(((0, 1),)).standing)
        self.assertFalse(kept((), ("drop", 0, 1)) == Keeper(((0, 1),)))
        self.assertFalse(kept((), ("move", 1)) == kept((), ("move", 2)))

    def test_equal_to_nothing_else(self):
        keeper = Keeper(())
        for value in STRANGE + [(), 0, "", "Keeper", keeper.log, keeper.standing, Keeper, object()]:
            if not isinstance(value, Keeper):
                self.assertFalse(keeper == value)
                self.assertTrue(keeper != value)
                self.assertFalse(value == keeper)

    def test_iterating(self):
        for keeper in (Keeper(()), kept(((1, 1),), ("move", 1), ("fold", 2))):
            for call in (iter, list, tuple, sorted, lambda known: [deed for deed in known], lambda known: 0 in known,
                         lambda known: [*known], reversed):
                with self.assertRaises(TypeError):
                    call(keeper)

    def test_length(self):
        keeper = Keeper(((1, 1),))
        for many in range(5):
            self.assertEqual(len(keeper), many)
            keeper.move(0)
        keeper.undo()
        self.assertEqual(len(keeper), 4)

    def test_properties_cannot_be_assigned(self):
        keeper = kept(((1, 1),), ("move", 1))
        for name in ("log", "standing", "total"):
            with self.assertRaises(AttributeError):
                setattr(keeper, name, ())
        self.assertEqual(seen(keeper), ((("move", 1),), ((2, 1),), 1, 1))

    def test_keepers_share_nothing(self):
        strip = ((1, 1),)
        one, other = Keeper(strip), Keeper(strip)
        one.move(5)
        log = one.log
        one.fold(3)
        self.assertEqual(seen(other), ((), ((1, 1),), 1, 0))
        self.assertEqual(log, (("move", 5),))
        self.assertEqual(strip, ((1, 1),))

    def test_methods_stand_in_the_class(self):
        methods = {"drop": "place drops", "fold": "crease", "move": "by", "undo": "", "redo": "", "attempt": "action",
                   "__init__": "strip", "__len__": "", "__eq__": "other"}
        for name, parameters in methods.items():
            told = list(inspect.signature(vars(Keeper)[name]).parameters)
            self.assertEqual(" ".join(told[1:]), parameters)
        for name in ("log", "standing", "total"):
            self.assertIsInstance(vars(Keeper)[name], property)
        self.assertEqual(Keeper.__module__, "wetfolds.keepers")
        self.assertEqual(Keeper.__bases__, (object,))

    def test_strips_of_many_pairs_stand(self):
        keeper = kept((), *FIVE, *TO_10000)
        self.assertEqual(len(keeper.standing), 10000)
        self.assertIs(is_strip(keeper.standing), False)
        self.assertEqual(keeper.total, 5 * 2 ** 11)


if __name__ == "__main__":
    unittest.main()
