"""How a live store stands between two deeds: its copies, the pages of records, and the walks that go on."""

from plainstore.changes import moment_of
from plainstore.visits import Walk


class Standing:
    """How a live store stands; it never changes: what comes of a deed is another one.

    Words are those of the edits, undos and redos; pages are kept of the records that do not lie in page 0.
    """

    def __init__(self, copies, words, places, going, begun):
        self.copies = copies
        self.words = words
        self.places = places
        self.going = going
        self.begun = begun

    def page_at(self, copy, moment, number):
        """The page of a record of a copy."""
        return self.places.get((copy, moment, number), 0)

    def lying_on(self, copy):
        """Where the records of a copy lie."""
        return [(moment, number, self.page_at(copy, moment, number))
                for moment, number, _ in self.copies.records(copy)]

    def written(self, copies, kind):
        """What comes of an edit, undo or redo that these copies have behind all others."""
        lot, change = copies.edits()[-1]
        lying = [(moment_of(change), len(copies), 0)]
        return Standing(copies, self.words + (kind,), self.places, self._going_on(lot, lying), self.begun)

    def moved(self, copy, moment, number, page):
        """What comes of a move of a record to another page."""
        places = {place: self.places[place] for place in self.places if place != (copy, moment, number)}
        if page > 0:
            places[(copy, moment, number)] = page
        going = self._going_on((copy,), [(moment, number, page)])
        return Standing(self.copies, self.words, places, going, self.begun)

    def does_let(self, count, copy, own, other):
        """Whether the walks on a copy let a record move from its own page to the other one."""
        walks = [walk for walk in list(self.going.values()) if walk.on == copy]
        return all([walk.does_let(count, own, other) for walk in walks])

    def with_begun(self, copy, page, rule):
        """What comes of a walk that is begun."""
        walk = Walk(copy, page, rule, 0, {}, {}).with_lain(self.lying_on(copy))
        return Standing(self.copies, self.words, self.places, {**self.going, self.begun: walk}, self.begun + 1)

    def with_walk(self, number, walk):
        """What comes of a visit of a walk that goes on."""
        return Standing(self.copies, self.words, self.places, {**self.going, number: walk}, self.begun)

    def without_walk(self, number):
        """What comes of a walk that ends, or is dropped."""
        going = {other: self.going[other] for other in self.going if other != number}
        return Standing(self.copies, self.words, self.places, going, self.begun)

    def __eq__(self, other):
        # Neither the words of edits nor how many walks there were count.
        return (
            isinstance(other, Standing) and self.copies == other.copies and self.places == other.places
            and self.going == other.going
        )

    def _going_on(self, lot, lying):
        """The walks, where records come to lie so on the copies of a lot."""
        walks = {}
        for number in self.going:
            walk = self.going[number]
            walks[number] = walk.with_lain(lying) if walk.on in lot else walk
        return walks
