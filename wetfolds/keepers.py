"""Keepers: strips whose deeds can be taken back and done again."""

from wetfolds.checks import check_number, check_strip
from wetfolds.errors import InvalidCrease, InvalidPlace, NothingToRedo, NothingToUndo, TooMany
from wetfolds.lives import (
    FARTHEST_DEED, MOST_DEEDS, MOST_DROPS, MOST_LOG_FOLDS, count_log_folds, do_deed, is_deed_crease, is_deed_place,
)
from wetfolds.strips import sum_of_drops


class Keeper:
    """A strip with the log of the deeds that were done to it."""

    def __init__(self, strip):
        check_strip(strip)
        # All four are only ever given new tuples, so an attempt that fails can put back what was there.
        self._first = strip
        self._deeds = ()
        self._strips = (strip,)
        self._undone = ()

    def drop(self, place, drops):
        """Lay so many drops to a place."""
        if not is_deed_place(place):
            raise InvalidPlace("no place of a deed")
        check_number(drops, 1, MOST_DROPS)
        self._check_room()
        self._do(("drop", place, drops))

    def fold(self, crease):
        """Fold the strip at a crease."""
        if not is_deed_crease(crease):
            raise InvalidCrease("no crease of a deed")
        self._check_room()
        if count_log_folds(self._deeds) >= MOST_LOG_FOLDS:
            raise TooMany(MOST_LOG_FOLDS)
        self._do(("fold", crease))

    def move(self, by):
        """Move all drops so many places further."""
        check_number(by, -FARTHEST_DEED, FARTHEST_DEED)
        self._check_room()
        self._do(("move", by))

    def undo(self):
        """Take back the last deed."""
        if len(self._deeds) == 0:
            raise NothingToUndo("no deed to take back")
        self._undone = self._undone + ((self._deeds[-1], self._strips[-1]),)
        self._deeds = self._deeds[:-1]
        self._strips = self._strips[:-1]

    def redo(self):
        """Do again the deed that was taken back last."""
        if len(self._undone) == 0:
            raise NothingToRedo("no deed to do again")
        deed, strip = self._undone[-1]
        self._undone = self._undone[:-1]
        self._deeds = self._deeds + (deed,)
        self._strips = self._strips + (strip,)

    def attempt(self, action):
        """What a function returns that is called with the keeper; if it ends with an error, all is as before."""
        deeds, strips, undone = self._deeds, self._strips, self._undone
        ended = None
        try:
            told = action(self)
            ended = True
        finally:
            if ended is None:
                self._deeds, self._strips, self._undone = deeds, strips, undone
        return told

    @property
    def log(self):
        """The log of the deeds that are not taken back."""
        return self._deeds

    @property
    def standing(self):
        """The strip as it stands."""
        return self._strips[-1]

    @property
    def total(self):
        """How many drops the strip has in all, as it stands."""
        return sum_of_drops(self._strips[-1])

    def __len__(self):
        return len(self._deeds)

    def __eq__(self, other):
        return isinstance(other, Keeper) and self._first == other._first and self._deeds == other._deeds

    def _check_room(self):
        """Raise TooMany if there is no room for a deed more."""
        if len(self._deeds) >= MOST_DEEDS:
            raise TooMany(MOST_DEEDS)

    def _do(self, deed):
        """Do a deed; what was taken back cannot be done again then."""
        strip = do_deed(self._strips[-1], deed)
        self._strips = self._strips + (strip,)
        self._deeds = self._deeds + (deed,)
        self._undone = ()
