"""Fractions: tuples (above, beneath) of integers without a common divisor, beneath from 1."""

from math import gcd

from pitlots.values import is_tuple_of, is_whole


def is_fraction(value):
    """Whether a value is a fraction."""
    if not is_tuple_of(value, 2) or not is_whole(value[0]) or not is_whole(value[1]):
        return False
    return value[1] >= 1 and gcd(value[0], value[1]) == 1


def reduced(above, beneath):
    """The fraction that is above by beneath, beneath being above 0."""
    common = gcd(above, beneath)
    return above // common, beneath // common


def is_less(one, other):
    """Whether a fraction is less than another one."""
    return one[0] * other[1] < other[0] * one[1]


def least_fraction(fractions):
    """The least of some fractions, at least one."""
    least = fractions[0]
    for fraction in fractions:
        if is_less(fraction, least):
            least = fraction
    return least


def greatest_fraction(fractions):
    """The greatest of some fractions, at least one."""
    greatest = fractions[0]
    for fraction in fractions:
        if is_less(greatest, fraction):
            greatest = fraction
    return greatest


def sum_fraction(fractions):
    """The sum of some fractions."""
    above, beneath = 0, 1
    for more_above, more_beneath in fractions:
        above, beneath = reduced(above * more_beneath + more_above * beneath, beneath * more_beneath)
    return above, beneath


def product_fraction(one, other):
    """One fraction times another one."""
    return reduced(one[0] * other[0], one[1] * other[1])
