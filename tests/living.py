"""A plain model of a live store for the tests, with nothing taken from the program.

Of each record on each copy it keeps the times at which it came to each page; all that a walk sees follows from these.
"""

import copy as copying

from tests.plainly import lots_of
from tests.reckon import behind, some_deed

RULES = ("barred", "free", "left")


class Refused(Exception):
    """A deed is refused: with this error, which tells this."""

    def __init__(self, error, told):
        self.error = error
        self.told = told


class State:
    """All that deeds change."""

    def __init__(self, count, deeds):
        self.edits = []
        self.kinds = []
        self.pasts = [sorted(deeds)]
        self.line = ((), ())
        self.lay = [{(deed[0], 0): [(0, 0)] for deed in deeds} for _ in range(count)]
        self.deeds = {(deed[0], 0): deed for deed in deeds}
        self.walks = {}
        self.begun = 0
        self.clock = 0


class PlainLive:
    """The model: each deed is done plainly, and whole states are kept."""

    def __init__(self, count, pages, deeds):
        self.count = count
        self.pages = pages
        self.state = State(count, deeds)
        self.backs = []
        self.agains = []

    def past(self):
        return self.state.pasts[-1]

    def records(self, on):
        return [(*record, self.state.deeds[record]) for record in sorted(self.state.lay[on])]

    def page_of(self, on, moment, number):
        return self.state.lay[on][(moment, number)][-1][1]

    def seen(self, lot):
        last = {}
        for on in lot:
            for moment, number, deed in self.records(on):
                if number >= last.get(moment, (0,))[0]:
                    last[moment] = (number, deed)
        return [last[moment][1] for moment in sorted(last) if last[moment][1] is not None]

    def lacks(self, lot):
        seen = {deed[0]: deed for deed in self.seen(lot)}
        right = {deed[0]: deed for deed in self.past()}
        return [moment for moment in range(1, 1000) if seen.get(moment) != right.get(moment)]

    def walks(self):
        walks = self.state.walks
        return [(n, walks[n]["on"], walks[n]["begin"], walks[n]["rule"], walks[n]["done"]) for n in sorted(walks)]

    def signature(self):
        """What counts where two stores are equal."""
        walks = self.state.walks
        lain = {n: sorted({(record, page) for record, times in self.state.lay[walks[n]["on"]].items()
                           for page in self.pages_since(times, walks[n]["since"])})
                for n in walks if walks[n]["rule"] == "left"}
        pages = [{record: times[-1][1] for record, times in lay.items()} for lay in self.state.lay]
        first = self.state.pasts[0]
        return (first, self.state.edits, self.state.line, pages, self.walks(),
                [sorted(walks[n]["seen"]) for n in walks], lain)

    def pages_since(self, times, since):
        """The pages on which a record lay at any time since."""
        told = []
        for at, (time, page) in enumerate(times):
            end = times[at + 1][0] if at + 1 < len(times) else self.state.clock + 1
            if end > since:
                told.append(page)
        return told

    def do(self, word, *args):
        """Do a deed, and tell what it returns."""
        before = copying.deepcopy(self.state)
        self.state.clock += 1
        try:
            told = getattr(self, "_" + word)(*args)
        except Refused:
            self.state = before
            raise
        self.backs.append(before)
        self.agains = []
        return told

    def back(self):
        if not self.backs:
            raise Refused("NothingBack", 0)
        self.agains.append(self.state)
        self.state = self.backs.pop()

    def again(self):
        if not self.agains:
            raise Refused("NothingBack", 0)
        self.backs.append(self.state)
        self.state = self.agains.pop()

    def _write(self, lot, change, kind):
        if len(self.state.edits) == 60:
            raise Refused("TooMany", 60)
        if change[0] == "in" and len(self.past()) == 60:
            raise Refused("TooMany", 60)
        self.state.pasts.append(behind(self.past(), change))
        self.state.edits.append((lot, change))
        self.state.kinds.append(kind)
        moment = change[1] if change[0] == "out" else change[1][0]
        number = len(self.state.edits)
        self.state.deeds[(moment, number)] = None if change[0] == "out" else change[1]
        for on in lot:
            self.state.lay[on][(moment, number)] = [(self.state.clock, 0)]

    def _edit(self, lot, change):
        moment = change[1] if change[0] == "out" else change[1][0]
        if (change[0] == "out") != (moment in {deed[0] for deed in self.past()}):
            raise Refused("NoChange", change)
        self._write(lot, change, "edit")
        self.state.line = (self.state.line[0] + (len(self.state.edits),), ())

    def _undo(self, lot):
        done, undone = self.state.line
        if not done:
            raise Refused("NothingBack", "undo")
        word, what = self.state.edits[done[-1] - 1][1]
        ahead = {deed[0]: deed for deed in self.state.pasts[done[-1] - 1]}
        self._write(lot, ("out", what[0]) if word == "in" else ("in", ahead[what]), "undo")
        self.state.line = (done[:-1], done[-1:] + undone)

    def _redo(self, lot):
        done, undone = self.state.line
        if not undone:
            raise Refused("NothingBack", "redo")
        self._write(lot, self.state.edits[undone[0] - 1][1], "redo")
        self.state.line = (done + undone[:1], undone[1:])

    def _move(self, on, moment, number, page):
        if (moment, number) not in self.state.lay[on]:
            raise Refused("NoMove", None)
        own = self.page_of(on, moment, number)
        if page == own:
            raise Refused("NoMove", page)
        for walk in self.state.walks.values():
            visited = [(walk["begin"] + at) % self.pages for at in range(walk["done"])]
            if walk["rule"] == "barred" and walk["on"] == on and own not in visited and page in visited:
                raise Refused("NoMove", page)
        self.state.lay[on][(moment, number)].append((self.state.clock, page))

    def _walk(self, on, page, rule):
        walk = {"on": on, "begin": page, "rule": rule, "done": 0, "seen": set(), "since": self.state.clock}
        self.state.walks[self.state.begun] = walk
        self.state.begun += 1
        return self.state.begun - 1

    def _step(self, number):
        if number not in self.state.walks:
            raise Refused("NoWalk", number)
        walk = self.state.walks[number]
        here = (walk["begin"] + walk["done"]) % self.pages
        for record, times in self.state.lay[walk["on"]].items():
            lain = self.pages_since(times, walk["since"]) if walk["rule"] == "left" else []
            if here in lain + [times[-1][1]]:
                walk["seen"].add(record)
        walk["done"] += 1
        if walk["done"] < self.pages:
            return None
        del self.state.walks[number]
        return [(*record, self.state.deeds[record]) for record in sorted(walk["seen"])]

    def _drop(self, number):
        if number not in self.state.walks:
            raise Refused("NoWalk", number)
        del self.state.walks[number]


def some_act(rng, model, keys=2, last=8):
    """A deed that mostly can be done, as (word, arguments ..)."""
    lot = rng.choice(lots_of(model.count))
    word = rng.choice(("edit", "edit", "undo", "redo", "move", "move", "walk", "step", "step", "step", "drop"))
    if word == "edit":
        moment = rng.randrange(1, last + 1)
        is_there = moment in {deed[0] for deed in model.past()}
        if rng.random() < 0.1:
            is_there = not is_there
        return (word, lot, ("out", moment) if is_there else ("in", some_deed(rng, moment, keys)))
    if word in ("undo", "redo"):
        return (word, lot)
    if word == "move":
        on = rng.randrange(model.count)
        lying = sorted(model.state.lay[on]) or [(1, 0)]
        record = rng.choice(lying) if rng.random() < 0.9 else (rng.randrange(9), rng.randrange(4))
        return (word, on, *record, rng.randrange(model.pages))
    if word == "walk":
        return (word, rng.randrange(model.count), rng.randrange(model.pages), rng.choice(RULES))
    return (word, rng.choice(sorted(model.state.walks) or [0]) if rng.random() < 0.9 else rng.randrange(5))
