"""Rings that wash out a row of folds: on which evenly many drops come to each place, whatever lay there.

Modulo 2 what comes of one drop is the product of 1 + z ** d for each step d, and for the first way, moved; a ring
of so many places makes z ** size one with 1. Let the size be a power of two times an odd number m. Each root of
z ** m - 1 is a root of z ** size - 1 as often as the power tells, and one of 1 + z ** d, if m divides d, as often
as the twos of d tell; there are roots that are none of 1 + z ** d if m does not divide d. So a ring washes out a
row if the twos of the steps that m divides are together no less than the power, or if a step is 0.
"""

from wetfolds.checks import check_folds, check_number, is_from_to
from wetfolds.errors import InvalidNumber
from wetfolds.prints import steps_between

GREATEST_SIZE = 10 ** 6


def ring_washes(size, folds):
    """Whether a ring washes out a row."""
    check_number(size, 1, GREATEST_SIZE)
    check_folds(folds)
    power = twos_of(size)
    return washes_all(folds) or power <= twos_against(folds, size // power)


def washing_rings(folds):
    """The ascending list of the sizes of all rings that wash a row out; None if all do."""
    check_folds(folds)
    if washes_all(folds):
        return None
    sizes = []
    for odd in odd_divisors(steps_between(folds)):
        size = odd
        for _ in range(twos_against(folds, odd).bit_length()):
            sizes.append(size)
            size *= 2
    return sorted(sizes)


def washing_power(folds, odd):
    """The greatest e such that the ring of 2 ** e times an odd number of places washes a row out: -1 if even
    that of so many does not, None if all do."""
    check_folds(folds)
    if not is_from_to(odd, 3, GREATEST_SIZE) or odd % 2 == 0:
        raise InvalidNumber("no odd integer that is great enough, and no more")
    if washes_all(folds):
        return None
    return twos_against(folds, odd).bit_length() - 1


def washes_all(folds):
    """Whether all rings wash out a row."""
    return 0 in steps_between(folds)


def twos_of(number):
    """The twos of an integer other than 0."""
    return number & -number


def twos_against(folds, odd):
    """The greatest power of two, or more, by which a ring has to be as great as an odd number, to wash out a row
    without a step 0; 0 if none does."""
    if len(folds) == 0:
        return 0
    together = sum([twos_of(step) for step in steps_between(folds) if step % odd == 0])
    if odd > 1:
        return together
    # 1 divides each first way, too. One that is odd has 1 as its twos; among the even ones some have only 2.
    return together + 2 - folds[0] % 2


def odd_divisors(steps):
    """The ascending list of 1 and of the odd integers that divide some step."""
    divisors = [1]
    for step in steps:
        divisors.extend(odd_divisors_of(step))
    return sorted(set(divisors))


def odd_divisors_of(number):
    """The list of the odd integers that divide a positive integer."""
    rest = number // twos_of(number)
    divisors = []
    for odd in range(1, rest + 1, 2):
        if odd * odd > rest:
            break
        if rest % odd == 0:
            divisors.extend([odd, rest // odd])
    return divisors
