"""Lots: ascending tuples of unlike copies, by numbers from 0."""

from plainstore.errors import NoLot
from plainstore.limits import is_within

MOST_COPIES = 5


def is_lot(value, count):
    """Whether any value is a lot of so many copies."""
    if not isinstance(value, tuple) or not all([is_within(copy, 0, count - 1) for copy in value]):
        return False
    return all([one < other for one, other in zip(value, value[1:])])


def check_lot(lot, count):
    """Refuse what is no lot of so many copies."""
    if not is_lot(lot, count):
        raise NoLot(lot)


def all_lots(copies):
    """The lots of these copies, which are ascending: by size, then ascending."""
    lots = [()]
    for copy in copies:
        lots = lots + [lot + (copy,) for lot in lots]
    return sorted(lots, key=lambda lot: (len(lot), lot))


def in_common(one, other):
    """The lot of the copies that both lots have."""
    return tuple([copy for copy in one if copy in other])
