"""Lots: ascending tuples of unlike copies, by numbers from 0."""

from plainstore.errors import NoLot
from plainstore.limits import is_within


def is_lot(value, count):
    """Whether any value is a lot of so many copies."""
    if not isinstance(value, tuple) or not all([is_within(copy, 0, count - 1) for copy in value]):
        return False
    return all([one < other for one, other in zip(value, value[1:])])


def check_lot(lot, count):
    """Refuse what is no lot of so many copies."""
    if not is_lot(lot, count):
        raise NoLot(lot)
