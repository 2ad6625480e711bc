"""Strips modulo a prime, led back to the one strip of which a row made them."""

from wetfolds.checks import check_prime, check_some_folds, check_strip
from wetfolds.errors import TooMany
from wetfolds.strips import mirror_drops, move_drops, strip_from
from wetfolds.washforms import drops_modulo, form_modulo

FARTHEST_APART = 4000


def washed_from(strip, folds, prime):
    """The strip to the right of the first crease of which a row makes a strip, modulo a prime; None if none is."""
    check_strip(strip)
    check_some_folds(folds)
    check_prime(prime)
    strip = drops_modulo(strip, prime)
    if len(strip) == 0:
        return ()
    if strip[-1][0] - strip[0][0] > FARTHEST_APART:
        raise TooMany(FARTHEST_APART)
    if form_modulo(folds, prime) == ():
        return None
    for at in range(len(folds) - 1, 0, -1):
        strip = undo_modulo(strip, folds[at - 1], folds[at], prime)
        if strip is None:
            return None
    return right_of_crease(strip, folds[0], prime)


def undo_modulo(strip, ahead, crease, prime):
    """The strip that, laid together with itself moved from the crease ahead to the further one, is, modulo
    a prime, a strip with one drop or more; None if there is none."""
    if ahead == crease:
        return halve_modulo(strip, prime)
    half = quotient_by_step(strip, abs(ahead - crease), prime)
    if half is None:
        return None
    return move_drops(half, max(0, ahead - crease))


def halve_modulo(strip, prime):
    """The strip that has, modulo an odd prime, half as many drops."""
    return drops_modulo([(place, drops * (prime + 1) // 2) for place, drops in strip], prime)


def quotient_by_step(strip, step, prime):
    """The strip that, laid together with itself moved by a positive step, is a strip modulo a prime, or None."""
    table = dict(strip)
    least, greatest = strip[0][0], strip[-1][0]
    # Modulo a prime there can be drops where the strip has none, so each place between has to be gone through.
    half = {}
    for place in range(least, greatest + 1):
        half[place] = (table.get(place, 0) - half.get(place - step, 0)) % prime
    # What is left near the right end would come, moved, beyond it.
    if any([half[place] != 0 for place in range(max(least, greatest - step + 1), greatest + 1)]):
        return None
    return drops_modulo(strip_from(half), prime)


def right_of_crease(strip, crease, prime):
    """The strip to the right of a crease of which a fold at it makes a strip, modulo a prime; None if none is."""
    if mirror_drops(strip, crease) != strip:
        return None
    middle = [(place, drops) for place, drops in strip if 2 * place == crease]
    # Two drops are none modulo 2, so what lies on the crease came of nothing there.
    if prime == 2 and len(middle) > 0:
        return None
    right = [(place, drops) for place, drops in strip if 2 * place > crease]
    return halve_modulo(middle, prime) + tuple(right)
