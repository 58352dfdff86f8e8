"""Copies that are written and read by lots."""

from plainstore.changes import changed, check_change, moment_of, opposite, told_change
from plainstore.errors import NoCount, NoLot, NoPast, NothingBack, TooMany
from plainstore.limits import is_within
from plainstore.lots import MOST_COPIES, check_lot
from plainstore.pasts import Past

MOST_EDITS = 60


class Copies:
    """One to five copies, on which the records of edits lie."""

    def __init__(self, count, past=None):
        if not is_within(count, 1, MOST_COPIES):
            raise NoCount(count)
        if past is not None and not isinstance(past, Past):
            raise NoPast(past)
        self._count = count
        self._first = Past() if past is None else past
        self._now = self._first
        self._edits = []
        self._answers = []
        self._line = ((), ())

    @property
    def many(self):
        """How many copies there are."""
        return self._count

    def past(self):
        """The past behind all edits."""
        return self._now

    def edits(self):
        """The pairs (lot, change) of all edits, undos and redos."""
        return list(self._edits)

    def line(self):
        """The pair (done, undone) of tuples of numbers of edits."""
        return self._line

    def edit(self, lot, change):
        """Make the next edit."""
        check_lot(lot, self._count)
        check_change(self._now, change)
        self._write(lot, change)
        self._line = (self._line[0] + (len(self._edits),), ())

    def undo(self, lot):
        """Take back the last edit that is done."""
        check_lot(lot, self._count)
        done, undone = self._line
        if not done:
            raise NothingBack("undo")
        self._write(lot, self._answers[done[-1] - 1])
        self._line = (done[:-1], done[-1:] + undone)

    def redo(self, lot):
        """Do the first edit that is undone again."""
        check_lot(lot, self._count)
        done, undone = self._line
        if not undone:
            raise NothingBack("redo")
        _, change = self._edits[undone[0] - 1]
        self._write(lot, change)
        self._line = (done + undone[:1], undone[1:])

    def records(self, copy):
        """The records that lie on a copy, by moments, then numbers."""
        self.check_copy(copy)
        return self._lying_on((copy,))

    def check_copy(self, copy):
        """Refuse what is no number of a copy."""
        if not is_within(copy, 0, self._count - 1):
            raise NoLot(copy)

    def seen(self, lot):
        """The deeds that a lot sees, by moments."""
        check_lot(lot, self._count)
        latest = {}
        for moment, _, deed in self._lying_on(lot):
            latest[moment] = deed
        return [deed for deed in list(latest.values()) if deed is not None]

    def lacks(self, lot):
        """The moments at which a lot sees otherwise than the past has it, ascending."""
        seen = {deed[0]: deed for deed in self.seen(lot)}
        right = {deed[0]: deed for deed in self._now.deeds()}
        moments = sorted(set(list(seen) + list(right)))
        return [moment for moment in moments if seen.get(moment) != right.get(moment)]

    def twin(self):
        """Equal copies that go on by themselves."""
        other = Copies(self._count, self._first)
        other._now = self._now
        other._edits = list(self._edits)
        other._answers = list(self._answers)
        other._line = self._line
        return other

    def __len__(self):
        return len(self._edits)

    def __eq__(self, other):
        return (
            isinstance(other, Copies) and self._count == other._count and self._first == other._first
            and self._edits == other._edits and self._line == other._line
        )

    def _write(self, lot, change):
        if len(self._edits) >= MOST_EDITS:
            raise TooMany(MOST_EDITS)
        now = changed(self._now, change)
        self._answers.append(opposite(self._now, change))
        self._edits.append((lot, told_change(change)))
        self._now = now

    def _lying_on(self, lot):
        """The records that lie on any copies of a lot, by moments, then numbers."""
        found = [(deed[0], 0, deed) for deed in self._first.deeds()] if lot else []
        for number, (own, change) in enumerate(self._edits, start=1):
            if any([copy in lot for copy in own]):
                word, what = change
                found.append((moment_of(change), number, what if word == "in" else None))
        # No two of these have both moment and number, so deeds are never compared.
        return sorted(found)
