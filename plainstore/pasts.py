"""Pasts: sets of deeds at unlike moments."""

from plainstore.deeds import in_order, is_deed
from plainstore.errors import NoDeed, NoMoment, NoPast, TooMany
from plainstore.limits import is_number

MOST_DEEDS = 60


def is_listed_past(value):
    """Whether any value is a list or tuple of deeds that a past can be made of."""
    if not isinstance(value, (list, tuple)) or len(value) > MOST_DEEDS or not all([is_deed(deed) for deed in value]):
        return False
    return len(set([deed[0] for deed in value])) == len(value)


class Past:
    """A set of up to sixty deeds at unlike moments, which never changes."""

    def __init__(self, deeds=()):
        if not isinstance(deeds, (list, tuple)):
            raise NoPast(None)
        rows = {}
        for index, deed in enumerate(deeds):
            if not is_deed(deed) or deed[0] in rows:
                raise NoPast(index)
            rows[deed[0]] = in_order(deed)
        if len(rows) > MOST_DEEDS:
            raise TooMany(MOST_DEEDS)
        self._moments = sorted(rows)
        self._rows = rows

    def deeds(self):
        """The deeds by moments, their pairs by names."""
        return [self._rows[moment] for moment in self._moments]

    def __getitem__(self, at):
        """The deed at this moment."""
        if at not in self:
            raise NoMoment(at)
        return self._rows[at]

    def __contains__(self, x):
        """Whether any value is a moment of a deed."""
        # Other values might be no key of a dict, or equal to a number that they are not.
        return is_number(x) and x in self._rows

    def __len__(self):
        return len(self._moments)

    def __iter__(self):
        """The moments of the deeds, ascending."""
        return iter(self._moments)

    def listed(self):
        """The list of the moments of the deeds, ascending."""
        return list(self._moments)

    def __eq__(self, other):
        return isinstance(other, Past) and self._rows == other._rows

    def with_deed(self, deed):
        """A new past that has this deed, too."""
        if not is_deed(deed):
            raise NoDeed(deed)
        if deed[0] in self._rows:
            raise NoMoment(deed[0])
        return Past(self.deeds() + [deed])

    def without(self, moment):
        """A new past that lacks the deed at this moment."""
        if moment not in self:
            raise NoMoment(moment)
        return Past([self._rows[other] for other in self._moments if other != moment])
