"""Fractions: pairs of whole numbers."""

from math import gcd

from stringrods.errors import InvalidFraction
from stringrods.rows import is_whole


def is_fraction(value):
    """Tell whether a value, whatever it is, is a fraction, also one below 0."""
    if not isinstance(value, tuple) or len(value) != 2:
        return False
    if not is_whole(value[0]) or not is_whole(value[1]):
        return False
    return value[1] > 0 and gcd(value[0], value[1]) == 1


def is_ratio(value):
    """Tell whether a value, whatever it is, is a fraction from 0 on."""
    return is_fraction(value) and value[0] >= 0


def check_ratio(value):
    """Raise InvalidFraction for what is no fraction from 0 on."""
    if not is_ratio(value):
        raise InvalidFraction(value)


def ratio(number, part):
    """Return the number divided by the part, which is not 0, as a fraction."""
    divisor = gcd(number, part)
    if part < 0:
        divisor = -divisor
    return (number // divisor, part // divisor)


def is_below(fraction, other):
    """Tell whether the first fraction is below the other one."""
    return fraction[0] * other[1] < other[0] * fraction[1]
