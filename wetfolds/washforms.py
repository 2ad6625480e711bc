"""Strips and rows of folds modulo a prime."""

from wetfolds.checks import PRIMES, check_folds, check_prime, check_some_folds, check_strip
from wetfolds.prints import print_by, steps_between

# After so many folds that only double all drops, these are as they were, modulo the prime.
TURNS_OF_DOUBLING = {2: 1, 3: 2, 5: 4, 7: 3}


def strip_modulo(strip, prime):
    """A strip modulo a prime."""
    check_strip(strip)
    check_prime(prime)
    return drops_modulo(strip, prime)


def wash_form(folds, prime):
    """The wash form of a row of one fold or more."""
    check_some_folds(folds)
    check_prime(prime)
    return form_modulo(folds, prime)


def wash_alike(folds, beside, prime):
    """Whether two rows are alike modulo a prime."""
    check_folds(folds)
    check_folds(beside)
    check_prime(prime)
    return alike_modulo(folds, beside, prime)


def wash_parting(folds, beside, prime):
    """The nearest place of a drop of which the prints of two rows are unlike modulo a prime; None if there is none."""
    check_folds(folds)
    check_folds(beside)
    check_prime(prime)
    # Rows that are not alike print unlike of a drop at 0, or of one at 1: no further place need be tried.
    for place in (0, 1):
        if drops_modulo(print_by(place, folds), prime) != drops_modulo(print_by(place, beside), prime):
            return place
    return None


def alike_primes(folds, beside):
    """The ascending tuple of the primes modulo which two rows are alike."""
    check_folds(folds)
    check_folds(beside)
    return tuple([prime for prime in PRIMES if alike_modulo(folds, beside, prime)])


def drops_modulo(strip, prime):
    """A strip of any length, modulo a prime."""
    return tuple([(place, drops % prime) for place, drops in strip if drops % prime != 0])


def alike_modulo(folds, beside, prime):
    """Whether two rows of any integers are alike modulo a prime."""
    if len(folds) == 0 or len(beside) == 0:
        return len(folds) == len(beside)
    return form_modulo(folds, prime) == form_modulo(beside, prime)


def form_modulo(folds, prime):
    """The wash form of a tuple of one integer or more."""
    steps = steps_between(folds)
    halts = steps.count(0)
    if prime == 2 and halts > 0:
        return ()
    return (folds[0], folds[-1], halts % TURNS_OF_DOUBLING[prime], join_steps(steps[halts:], prime))


def join_steps(steps, prime):
    """The steps, none of them 0, after as many equal ones as the prime tells have been made one, again and again."""
    at = 0
    while at + prime <= len(steps):
        if steps[at] == steps[at + prime - 1]:
            # The joined step is greater, so nothing ahead changes.
            steps = tuple(sorted(steps[:at] + steps[at + prime:] + (prime * steps[at],)))
        else:
            at += 1
    return steps
