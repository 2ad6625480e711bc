"""Strips of which drops are taken away, or that are made thinner."""

from math import gcd

from wetfolds.checks import check_number, check_strip

GREATEST_NUMBER = 10 ** 9


def taken_away(strip, other):
    """What is left of the first strip when the other one is taken away; None if this cannot be."""
    check_strip(strip)
    check_strip(other)
    table = dict(strip)
    for place, drops in other:
        if table.get(place, 0) < drops:
            return None
        table[place] -= drops
    return tuple([(place, table[place]) for place, drops in strip if table[place] > 0])


def common_drops(strip, other):
    """The strip of the lesser number of drops at each place."""
    check_strip(strip)
    check_strip(other)
    table = dict(other)
    return tuple([(place, min(drops, table[place])) for place, drops in strip if place in table])


def made_thinner(strip, number):
    """The strip with all numbers of drops divided by a number; None if one of them cannot be."""
    check_strip(strip)
    check_number(number, 1, GREATEST_NUMBER)
    return divide_drops(strip, number)


def thinnest_by(strip):
    """The greatest number by which a strip can be made thinner; None for no pairs."""
    check_strip(strip)
    if len(strip) == 0:
        return None
    number = 0
    for place, drops in strip:
        number = gcd(number, drops)
    return number


def divide_drops(strip, number):
    """A strip with all numbers of drops divided by a number; None if one of them cannot be."""
    if any([drops % number != 0 for place, drops in strip]):
        return None
    return tuple([(place, drops // number) for place, drops in strip])
