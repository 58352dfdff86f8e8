"""A plain reckoning for the tests: deeds are replayed one by one, with nothing taken from the program."""

import random

END = 999
NAMES = ("a", "b", "c", "dd", "zzzz")


class State:
    """Columns as lists [id, name, fill], in order; rows as dicts from keys to dicts from ids to values."""

    def __init__(self, columns=(), rows=None):
        self.columns = [list(column) for column in columns]
        self.rows = {key: dict(row) for key, row in (rows or {}).items()}

    def copy(self):
        return State(self.columns, self.rows)

    def place(self, name):
        for place, column in enumerate(self.columns):
            if column[1] == name:
                return place
        return None

    def do(self, deed):
        """Do a deed; tell whether it did anything to the columns."""
        moment, word = deed[:2]
        if word == "put":
            pairs = dict(deed[3])
            self.rows[deed[2]] = {own: pairs.get(name, fill) for own, name, fill in self.columns}
            return False
        if word == "strike":
            self.rows.pop(deed[2], None)
            return False
        place = self.place(deed[2])
        if word == "add":
            if place is not None:
                return False
            self.columns.append([moment, deed[2], deed[3]])
            for row in self.rows.values():
                row[moment] = deed[3]
            return True
        if place is None:
            return False
        if word == "drop":
            gone = self.columns.pop(place)
            for row in self.rows.values():
                del row[gone[0]]
            return True
        if self.place(deed[3]) is not None:
            return False
        self.columns[place][1] = deed[3]
        return True

    def map(self):
        return {own: name for own, name, _ in self.columns}

    def names(self):
        return tuple(sorted(name for _, name, _ in self.columns))

    def cells(self, key):
        return self.rows.get(key)

    def row(self, key):
        if key not in self.rows:
            return None
        return {name: self.rows[key][own] for own, name, _ in self.columns}


def states(deeds):
    """The state at each t from 0 to 999."""
    by_moment = {deed[0]: deed for deed in deeds}
    told = [State()]
    for t in range(1, END + 1):
        if t in by_moment:
            state = told[-1].copy()
            state.do(by_moment[t])
            told.append(state)
        else:
            told.append(told[-1])
    return told


def idle_moments(deeds):
    state = State()
    told = []
    for deed in sorted(deeds):
        if not state.do(deed) and deed[1] not in ("put", "strike"):
            told.append(deed[0])
    return told


def behind(deeds, change):
    """The deeds behind a change, in order."""
    word, what = change
    if word == "in":
        return sorted(list(deeds) + [what])
    return [deed for deed in deeds if deed[0] != what]


def stretches(moments):
    """The greatest stretches of ascending moments."""
    told = []
    for moment in moments:
        if told and told[-1][1] == moment - 1:
            told[-1] = (told[-1][0], moment)
        else:
            told.append((moment, moment))
    return tuple(told)


def some_pairs(rng):
    names = rng.sample(NAMES, rng.choice((0, 1, 1, 2, 4)))
    return tuple(sorted((name, rng.randrange(100)) for name in names))


def some_deed(rng, moment, keys=3):
    """A deed at this moment; its pairs are by names."""
    word = rng.choice(("put", "put", "strike", "add", "add", "drop", "rename"))
    if word == "put":
        return (moment, word, rng.randrange(keys), some_pairs(rng))
    if word == "strike":
        return (moment, word, rng.randrange(keys))
    if word == "add":
        return (moment, word, rng.choice(NAMES), rng.randrange(100))
    if word == "drop":
        return (moment, word, rng.choice(NAMES))
    return (moment, word, rng.choice(NAMES), rng.choice(NAMES))


def some_deeds(rng, many, last=END, keys=3):
    """So many deeds at unlike moments up to the last one, by moments."""
    moments = sorted(rng.sample(range(1, last + 1), many))
    return [some_deed(rng, moment, keys) for moment in moments]


def some_pasts(seed, count):
    """Lists of deeds of many sizes, close together and far apart, the same for the same seed."""
    rng = random.Random(seed)
    told = []
    for number in range(count):
        many = (0, 1, 2, 5, 9, 14, 25, 60)[number % 8]
        last = max(many, rng.choice((many + 3, 70, END)))
        told.append(some_deeds(rng, many, last, rng.choice((1, 3, 10))))
    return told
