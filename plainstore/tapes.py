"""Tapes: how a live store stood behind each of its deeds, to go back and again, and trials of it."""

from plainstore.errors import NothingBack


class Tape:
    """How a live store stands, how it stood ahead of each deed, and how behind those that were taken back."""

    def __init__(self, now):
        self.now = now
        self.backs = []
        self.agains = []

    def put(self, standing):
        """Go on to what a deed leads to."""
        self.backs.append(self.now)
        self.now = standing
        self.agains = []

    def back(self):
        """Take the last deed back."""
        if not self.backs:
            raise NothingBack(0)
        self.agains.append(self.now)
        self.now = self.backs.pop()

    def again(self):
        """Go to what was behind the deed that was taken back last."""
        if not self.agains:
            raise NothingBack(0)
        self.backs.append(self.now)
        self.now = self.agains.pop()

    def twin(self):
        """A tape of the same that goes on by itself."""
        other = Tape(self.now)
        other.backs = list(self.backs)
        other.agains = list(self.agains)
        return other


class Trial:
    """A block of deeds of a live store that leave nothing behind, unless they are kept as one deed."""

    def __init__(self, live, tape):
        self._live = live
        self._tape = tape
        self._now = tape.now
        self._backs = tape.backs
        self._agains = tape.agains
        self._kept = None

    def keep(self):
        """Let what is done in the block stay behind it."""
        self._kept = True

    def __enter__(self):
        self._now = self._tape.now
        self._backs = self._tape.backs
        self._agains = self._tape.agains
        self._kept = None
        self._tape.backs = []
        self._tape.agains = []
        return self._live

    def __exit__(self, kind, value, trace):
        if kind is not None or self._kept is None:
            self._tape.now = self._now
            self._tape.backs = self._backs
            self._tape.agains = self._agains
        if kind is None and self._kept is not None:
            self._tape.backs = self._backs + [self._now]
            self._tape.agains = []
