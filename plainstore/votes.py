"""Votes of copies: which lots are written, and which are enough to see all that was."""

from plainstore.errors import NoChances, NoCount, NoNeed, NoVotes
from plainstore.limits import is_within
from plainstore.lots import MOST_COPIES, all_lots, check_lot, in_common, is_lot
from plainstore.ratios import is_chance, lowered

MOST_VOTES = 9
MOST_COPIES_TRIED = 4
MOST_VOTES_TRIED = 3


def is_votes(value):
    """Whether any value is votes, one number for each copy."""
    if not isinstance(value, tuple) or not 1 <= len(value) <= MOST_COPIES:
        return False
    return all([is_within(vote, 0, MOST_VOTES) for vote in value]) and sum(value) >= 1


def is_write_lot(votes, need, lot):
    """Whether the votes of a lot are the need at least."""
    check_votes(votes, need)
    check_lot(lot, len(votes))
    return votes_of(votes, lot) >= need


def is_enough(votes, need, unruly, lot):
    """Whether a lot sees all that is written to write lots, whichever so many of its copies are unruly."""
    check_votes(votes, need)
    check_unruly(unruly, len(votes))
    check_lot(lot, len(votes))
    return _has_enough(votes, need, unruly, lot)


def enough_lots(votes, need, unruly):
    """All lots that are enough, by size, then ascending."""
    check_votes(votes, need)
    check_unruly(unruly, len(votes))
    return [lot for lot in _lots_of(len(votes)) if _has_enough(votes, need, unruly, lot)]


def write_lots(votes, need):
    """All write lots, by size, then ascending."""
    check_votes(votes, need)
    return [lot for lot in _lots_of(len(votes)) if votes_of(votes, lot) >= need]


def missed_paper(votes, need, unruly, lot):
    """None of a lot that is enough, otherwise ("missed", lot, other): a write lot that it may miss."""
    if is_enough(votes, need, unruly, lot):
        return None
    heaviest = _heaviest(votes, unruly, lot)
    other = [copy for copy in range(len(votes)) if copy not in lot or copy in heaviest]
    return ("missed", lot, tuple(other))


def accepts_missed(votes, need, unruly, paper):
    """Whether any value is a right paper of a lot that is not enough."""
    check_votes(votes, need)
    check_unruly(unruly, len(votes))
    if not isinstance(paper, tuple) or len(paper) != 3:
        return False
    word, lot, other = paper
    if not isinstance(word, str) or word != "missed":
        return False
    if not is_lot(lot, len(votes)) or not is_lot(other, len(votes)):
        return False
    return votes_of(votes, other) >= need and len(in_common(lot, other)) <= unruly


def chances(votes, need, unruly, ups):
    """The fractions (writable, readable): how likely the copies that are up are a write lot, and enough."""
    check_votes(votes, need)
    check_unruly(unruly, len(votes))
    if not _are_chances(ups) or len(ups) != len(votes):
        raise NoChances(ups)
    lots = _lots_of(len(votes))
    weights = _weights(lots, ups)
    writable = sum([weights[lot] for lot in lots if votes_of(votes, lot) >= need])
    readable = sum([weights[lot] for lot in lots if _has_enough(votes, need, unruly, lot)])
    whole = sum(list(weights.values()))
    return (lowered(writable, whole), lowered(readable, whole))


def best_counts(count, unruly, up, share):
    """The pairs (r, w) of counts, just enough for each other, of the greatest worth."""
    if not is_within(count, 1, MOST_COPIES):
        raise NoCount(count)
    check_unruly(unruly, count)
    _check_chance(up)
    _check_chance(share)
    weights = _weights(_lots_of(count), [up] * count)
    worths = {}
    for reads in range(1, count + 1):
        writes = count + unruly + 1 - reads
        if 1 <= writes <= count:
            worths[(reads, writes)] = _worth(share, _at_least(weights, reads), _at_least(weights, writes))
    greatest = max(list(worths.values()), default=0)
    return [pair for pair in worths if worths[pair] == greatest]


def best_votes(ups, unruly, share):
    """The triple (votes, need, worth) of the greatest worth, the least of these, or None."""
    if not _are_chances(ups) or not 1 <= len(ups) <= MOST_COPIES_TRIED:
        raise NoChances(ups)
    check_unruly(unruly, len(ups))
    _check_chance(share)
    weights = _weights(_lots_of(len(ups)), ups)
    best = None
    greatest = -1
    for votes in _votes_to_try(len(ups)):
        for need, worth in _worths_by_need(votes, unruly, weights, share):
            if worth > greatest:
                best, greatest = (votes, need), worth
    if best is None:
        return None
    votes, need = best
    return (votes, need, lowered(greatest, share[1] * sum(list(weights.values()))))


def check_votes(votes, need):
    """Refuse what is no votes, then what is no need of them."""
    if not is_votes(votes):
        raise NoVotes(votes)
    if not is_within(need, 1, sum(votes)):
        raise NoNeed(need)


def check_unruly(unruly, count):
    """Refuse what is no number of unruly ones of so many copies."""
    if not is_within(unruly, 0, count):
        raise NoCount(unruly)


def votes_of(votes, lot):
    """The votes of the copies of a lot together."""
    return sum([votes[copy] for copy in lot])


def _lots_of(count):
    return all_lots(list(range(count)))


def _heaviest(votes, unruly, lot):
    """So many copies of a lot of most votes, of like votes the lesser numbers."""
    return sorted(lot, key=lambda copy: (-votes[copy], copy))[:unruly]


def _sure_votes(votes, unruly, lot):
    """The votes of a lot that are left, whichever of its copies are unruly."""
    return votes_of(votes, lot) - votes_of(votes, _heaviest(votes, unruly, lot))


def _has_enough(votes, need, unruly, lot):
    return _sure_votes(votes, unruly, lot) > sum(votes) - need


def _are_chances(value):
    return isinstance(value, (list, tuple)) and all([is_chance(chance) for chance in value])


def _check_chance(value):
    if not is_chance(value):
        raise NoChances(value)


def _weights(lots, ups):
    """By lots, how likely just its copies are up, as numbers over one denominator, which is their sum."""
    weights = {}
    for lot in lots:
        weight = 1
        for copy, (top, bottom) in enumerate(ups):
            weight = weight * (top if copy in lot else bottom - top)
        weights[lot] = weight
    return weights


def _at_least(weights, count):
    return sum([weights[lot] for lot in weights if len(lot) >= count])


def _worth(share, readable, writable):
    return share[0] * readable + (share[1] - share[0]) * writable


def _votes_to_try(count):
    """All tuples of so many numbers of votes, ascending."""
    told = [()]
    for _ in range(count):
        told = [votes + (vote,) for votes in told for vote in range(MOST_VOTES_TRIED + 1)]
    return told


def _worths_by_need(votes, unruly, weights, share):
    """The pairs (need, worth) of the needs with which all copies together are enough."""
    rows = [(weights[lot], votes_of(votes, lot), _sure_votes(votes, unruly, lot)) for lot in weights]
    total = sum(votes)
    _, _, most_sure = rows[-1]
    told = []
    for need in range(total - most_sure + 1, total + 1):
        writable = sum([weight for weight, own, _ in rows if own >= need])
        readable = sum([weight for weight, _, sure in rows if sure > total - need])
        told.append((need, _worth(share, readable, writable)))
    return told
