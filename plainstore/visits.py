"""Walks of a live store that go on: where they are, what they have seen, and where records lay meanwhile.

Where a record lies is told by (moment, number, page).
"""

from plainstore.walks import is_barred


class Walk:
    """A walk on a copy, which never changes: what comes of it is another one."""

    def __init__(self, on, begin, rule, done, sighted, lain):
        self.on = on
        self.begin = begin
        self.rule = rule
        self.done = done
        self.sighted = sighted
        self.lain = lain

    def stepped(self, count, lying):
        """The walk behind its next visit, there being so many pages, and these records on its copy."""
        here = (self.begin + self.done) % count
        seen = {record: True for record in self.sighted}
        for moment, number, page in lying + list(self.lain):
            if page == here:
                seen[(moment, number)] = True
        return Walk(self.on, self.begin, self.rule, self.done + 1, seen, self.lain)

    def with_lain(self, lying):
        """The walk where these records lie now, too; it only counts by "left"."""
        if self.rule != "left":
            return self
        lain = {place: True for place in list(self.lain) + lying}
        return Walk(self.on, self.begin, self.rule, self.done, self.sighted, lain)

    def does_let(self, count, own, other):
        """Whether a record of its copy may move from its own page to the other one."""
        return self.rule != "barred" or not is_barred(count, self.begin, self.done, own, other)

    def __eq__(self, other):
        return (
            isinstance(other, Walk) and self.on == other.on and self.begin == other.begin
            and self.rule == other.rule and self.done == other.done and self.sighted == other.sighted
            and self.lain == other.lain
        )
