"""Reads by walks: whether they see what was written, and which copies have to be ruly for it."""

from plainstore.errors import NoCount, NoLot
from plainstore.limits import is_within
from plainstore.lots import MOST_COPIES, all_lots, check_lot, in_common, is_lot
from plainstore.walks import MOST_PAGES


def is_safe(count, reads, writes, unruly, pages=2):
    """Whether a read of any so many copies sees all that was written to any so many."""
    check_counts(count, reads, writes, unruly, pages)
    # In one page nothing can move ahead of a walk, so that all copies are ruly.
    return reads + writes > count + (unruly if pages > 1 else 0)


def lost_case(count, reads, writes, unruly, pages=2):
    """None, or the pair (read, write) of lots of which the one may miss what the other was written."""
    if is_safe(count, reads, writes, unruly, pages):
        return None
    return (tuple(range(reads)), tuple(range(count - writes, count)))


def unruly_case(count, reads, writes, unruly, pages=2):
    """None, or the lot of the unruly copies there."""
    case = lost_case(count, reads, writes, unruly, pages)
    if case is None:
        return None
    read, write = case
    return in_common(read, write)


def are_safe(writes, reads, unruly):
    """Whether no write lot and read lot have only unruly copies in common."""
    _check_told(writes, reads, unruly)
    return _is_had(_shared_lots(writes, reads), unruly)


def least_bars(writes, reads, unruly):
    """The least lots of unruly copies that have to be made ruly, by size, then ascending."""
    _check_told(writes, reads, unruly)
    return _least_bars(writes, reads, unruly)


def bars_by_count(count, reads, writes, unruly):
    """The least bars for all lots of so many copies."""
    check_counts(count, reads, writes, 0, 2)
    check_lot(unruly, count)
    lots = all_lots(list(range(count)))
    return _least_bars(_of_size(lots, writes), _of_size(lots, reads), unruly)


def check_counts(count, reads, writes, unruly, pages):
    """Refuse the first of these that is no count as it has to be."""
    _check_count(count, 1, MOST_COPIES)
    _check_count(reads, 1, count)
    _check_count(writes, 1, count)
    _check_count(unruly, 0, count)
    _check_count(pages, 1, MOST_PAGES)


def _check_count(value, least, most):
    if not is_within(value, least, most):
        raise NoCount(value)


def _check_told(writes, reads, unruly):
    for lots in (writes, reads):
        if not isinstance(lots, (list, tuple)):
            raise NoLot(None)
        for index, lot in enumerate(lots):
            if not is_lot(lot, MOST_COPIES):
                raise NoLot(index)
    check_lot(unruly, MOST_COPIES)


def _of_size(lots, size):
    return [lot for lot in lots if len(lot) == size]


def _shared_lots(writes, reads):
    """The unlike lots that a write lot and a read lot have in common."""
    return sorted(set([in_common(write, read) for write in writes for read in reads]))


def _is_had(shared, unruly):
    return all([len(in_common(lot, unruly)) < len(lot) for lot in shared])


def _least_bars(writes, reads, unruly):
    shared = _shared_lots(writes, reads)
    least = []
    for bars in all_lots(unruly):
        left = tuple([copy for copy in unruly if copy not in bars])
        # Lesser lots come first, so that one with another one within it is none of the least.
        if _is_had(shared, left) and not any([in_common(less, bars) == less for less in least]):
            least.append(bars)
    return least
