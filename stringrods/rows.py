"""Rows of whole numbers, of which points, planes and rods are made."""

from math import gcd


def is_whole(value):
    """Tell whether a value, whatever it is, is a whole number."""
    return isinstance(value, int) and not isinstance(value, bool)


def common_divisor(numbers):
    """Return the greatest common divisor, 0 if all numbers are 0."""
    common = 0
    for number in numbers:
        common = gcd(common, number)
    return common


def first_not_zero(numbers):
    """Return the first number that is not 0, 0 if there is none."""
    for number in numbers:
        if number != 0:
            return number
    return 0


def reduced(numbers):
    """Return the row of these numbers, not all 0, reduced."""
    divisor = common_divisor(numbers)
    if first_not_zero(numbers) < 0:
        divisor = -divisor
    return tuple([number // divisor for number in numbers])


def is_reduced_row(value, length):
    """Tell whether a value, whatever it is, is a reduced row of this length."""
    if not isinstance(value, tuple) or len(value) != length:
        return False
    if not all([is_whole(number) for number in value]):
        return False
    # Numbers that are all 0 have the common divisor 0, so they fail here, too.
    return common_divisor(value) == 1 and first_not_zero(value) > 0


def dot(row, other):
    """Return the sum of the products of two rows of one length."""
    return sum([left * right for left, right in zip(row, other)])


def cross(row, other):
    """Return the cross product of two rows of three."""
    return (
        row[1] * other[2] - row[2] * other[1],
        row[2] * other[0] - row[0] * other[2],
        row[0] * other[1] - row[1] * other[0],
    )


def times(factor, row):
    """Return the row with each number multiplied by the factor."""
    return tuple([factor * number for number in row])


def plus(row, other):
    """Return the sum of two rows of one length."""
    return tuple([left + right for left, right in zip(row, other)])


def minus(row, other):
    """Return the first row less the other one, both of one length."""
    return tuple([left - right for left, right in zip(row, other)])


def combined(factors, rows):
    """Return the sum of the rows, each multiplied by its factor."""
    total = times(factors[0], rows[0])
    for factor, row in zip(factors[1:], rows[1:]):
        total = plus(total, times(factor, row))
    return total
