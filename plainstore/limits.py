"""Numbers, and the limits within which they are moments, keys and values."""

FIRST_MOMENT = 1
LAST_MOMENT = 999
KEYS = (0, 1, 2, 3, 4, 5, 6, 7, 8, 9)
LAST_VALUE = 99


def is_number(value):
    """Whether any value is an int that is neither True nor False."""
    return isinstance(value, int) and not isinstance(value, bool)


def is_within(value, least, most):
    """Whether any value is a number from least to most."""
    return is_number(value) and least <= value <= most


def is_moment(value):
    """Whether any value is a moment at which a deed may be."""
    return is_within(value, FIRST_MOMENT, LAST_MOMENT)


def is_key(value):
    """Whether any value is a key of a row."""
    return is_number(value) and value in KEYS


def is_value(value):
    """Whether any value is one that a cell may have."""
    return is_within(value, 0, LAST_VALUE)
