"""Views: what lots that are enough may see while edits are unfinished."""

from plainstore.arguments import check_key, check_name, check_time
from plainstore.changes import moment_of
from plainstore.copies import Copies
from plainstore.errors import NoCopies, NoEdit, NoMoment, NoVotes, TooMany
from plainstore.limits import is_moment, is_within
from plainstore.lots import all_lots, in_common
from plainstore.tables import answer_of
from plainstore.votes import check_unruly, check_votes, enough_lots, votes_of

MOST_UNFINISHED = 4


def unfinished(copies, votes, need):
    """The numbers of the edits whose lot is no write lot, ascending."""
    _check_votes_of(copies, votes, need)
    return _below(copies.edits(), votes, need)


def needs_yet(copies, votes, need, number):
    """The least number of copies to which the record of an edit must come yet to make its lot a write lot."""
    _check_votes_of(copies, votes, need)
    if not is_within(number, 1, len(copies)):
        raise NoEdit(number)
    lot, _ = copies.edits()[number - 1]
    others = sorted([votes[copy] for copy in range(len(votes)) if copy not in lot], reverse=True)
    count = 0
    while votes_of(votes, lot) + sum(others[:count]) < need:
        count += 1
    return count


def heard(copies, votes, need, unruly):
    """The numbers of the edits that each lot that is enough sees, whichever of its copies are unruly; ascending."""
    _check_all(copies, votes, need, unruly)
    enough = enough_lots(votes, need, unruly)
    told = []
    for number, (lot, _) in enumerate(copies.edits(), start=1):
        if all([len(in_common(lot, read)) > unruly for read in enough]):
            told.append(number)
    return told


def may_see(copies, votes, need, unruly, moment):
    """The numbers of the edits whose record may be the last one that a view sees at this moment; 0 for none."""
    _check_all(copies, votes, need, unruly)
    if not is_moment(moment):
        raise NoMoment(moment)
    here = []
    for number, (lot, change) in enumerate(copies.edits(), start=1):
        if moment_of(change) == moment:
            here.append((number, lot))
    lasts = {}
    for ruly, wild in _ways_to_read(votes, need, unruly):
        # Records of the first past lie everywhere; as all lots that are enough have a ruly copy, 0 is always seen.
        surely = max([number for number, lot in here if in_common(lot, ruly)], default=0)
        lasts[surely] = True
        for number, lot in here:
            if number > surely and in_common(lot, wild):
                lasts[number] = True
    return sorted(lasts)


def answers_of(copies, votes, need, unruly, key, name, t):
    """The unlike answers of all views, texts ahead of numbers, ascending."""
    _check_all(copies, votes, need, unruly)
    check_key(key)
    check_name(name)
    check_time(t)
    edits = copies.edits()
    open_ones = _below(edits, votes, need)
    if len(open_ones) > MOST_UNFINISHED:
        raise TooMany(MOST_UNFINISHED)
    answers = []
    for hidden in _ways_to_hide(edits, open_ones, _ways_to_read(votes, need, unruly)):
        answers.append(answer_of(_deeds_without(copies, hidden), key, name, t))
    texts = [answer for answer in answers if isinstance(answer, str)]
    numbers = [answer for answer in answers if not isinstance(answer, str)]
    return sorted(set(texts)) + sorted(set(numbers))


def is_settled(copies, votes, need, unruly, key, name, t):
    """Whether all views tell the same of a key and a name."""
    return len(answers_of(copies, votes, need, unruly, key, name, t)) < 2


def _check_votes_of(copies, votes, need):
    if not isinstance(copies, Copies):
        raise NoCopies(copies)
    # What is no tuple might not even have a length.
    if isinstance(votes, tuple) and len(votes) != copies.many:
        raise NoVotes(votes)
    check_votes(votes, need)


def _check_all(copies, votes, need, unruly):
    _check_votes_of(copies, votes, need)
    check_unruly(unruly, len(votes))


def _below(edits, votes, need):
    return [number for number, (lot, _) in enumerate(edits, start=1) if votes_of(votes, lot) < need]


def _ways_to_read(votes, need, unruly):
    """The pairs (ruly copies, unruly copies) of lots that are enough, with as many unruly ones as may be.

    With fewer of them nothing else can be seen: a record on unruly copies alone may be seen, too.
    """
    told = []
    for lot in enough_lots(votes, need, unruly):
        for wild in all_lots(lot):
            if len(wild) == unruly:
                told.append((tuple([copy for copy in lot if copy not in wild]), wild))
    return told


def _ways_to_hide(edits, open_ones, ways):
    """The unlike lots of unfinished edits that a view does not see.

    Other edits are seen by each view: a write lot and the ruly copies of a lot that is enough have one in common.
    """
    told = {}
    for ruly, wild in ways:
        lots = {number: edits[number - 1][0] for number in open_ones}
        not_surely = [number for number in open_ones if not in_common(lots[number], ruly)]
        perhaps = [number for number in not_surely if in_common(lots[number], wild)]
        for seen in all_lots(perhaps):
            told[tuple([number for number in not_surely if number not in seen])] = True
    return list(told)


def _deeds_without(copies, hidden):
    """The deeds that are seen, in order, where the records of hidden edits are not."""
    latest = {}
    for copy in range(copies.many):
        for moment, number, deed in copies.records(copy):
            if number not in hidden and number >= latest.get(moment, (0, None))[0]:
                latest[moment] = (number, deed)
    return [latest[moment][1] for moment in sorted(latest) if latest[moment][1] is not None]
