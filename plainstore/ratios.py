"""Fractions: pairs (a, b) of numbers without a common divisor, b above 0."""

from math import gcd

from plainstore.limits import is_number

NOUGHT = (0, 1)
WHOLE = (1, 1)
GREATEST_HANDED_IN = 20


def is_ratio(value):
    """Whether any value is a fraction, of any size."""
    if not isinstance(value, tuple) or len(value) != 2:
        return False
    top, bottom = value
    return is_number(top) and is_number(bottom) and bottom > 0 and gcd(top, bottom) == 1


def is_chance(value):
    """Whether any value is a fraction that may be handed in, from 0 to 1."""
    return _is_small(value) and 0 <= value[0] <= value[1]


def is_share(value):
    """Whether any value is a fraction that may be handed in, above 0 and below 1."""
    return _is_small(value) and 0 < value[0] < value[1]


def is_cost(value):
    """Whether any value is a fraction that may be handed in, above 0."""
    return _is_small(value) and value[0] > 0


def lowered(top, bottom):
    """The fraction top / bottom, bottom being above 0."""
    shared = gcd(top, bottom)
    return (top // shared, bottom // shared)


def added(one, other):
    """The sum of two fractions."""
    return lowered(one[0] * other[1] + other[0] * one[1], one[1] * other[1])


def times(one, other):
    """The product of two fractions."""
    return lowered(one[0] * other[0], one[1] * other[1])


def rest_of(one):
    """1 less a fraction."""
    return (one[1] - one[0], one[1])


def is_less(one, other):
    """Whether a fraction is less than another one."""
    return one[0] * other[1] < other[0] * one[1]


def _is_small(value):
    return is_ratio(value) and value[0] <= GREATEST_HANDED_IN and value[1] <= GREATEST_HANDED_IN
