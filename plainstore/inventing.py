"""How rules invent rows; made values go by numbers here, as they may be made of others to any depth."""

from plainstore.errors import NoCount, TooMany
from plainstore.limits import is_number
from plainstore.makers import border_of, is_base, is_new

FIRST_MADE = 100


class Inventor:
    """What invents rows by rules, up to so many.

    A row is (table, entries), a tuple of numbers: those of values, those from FIRST_MADE on of made values, or, below
    0, any that stand for values that are not known.
    """

    def __init__(self, rules, most):
        self._bases = [rule for rule in rules if is_base(rule)]
        self._borders = {rule[0]: border_of(rule) for rule in rules}
        self._others = {}
        for rule in rules:
            if not is_base(rule):
                table, _ = rule[1]
                self._others[table] = self._others.get(table, []) + [rule]
        self._most = most
        self._numbers = {}
        self._made = []

    def rows_of(self, values):
        """The rows that one row makes, in order; values are told by the names of its columns."""
        found = {}
        rows = []
        for rule in self._bases:
            names = rule[1][1]
            if all([name in values for name in names]):
                self._put(found, rows, self._head(rule, [values[name] for name in names]))
        place = 0
        while place < len(rows):
            table, entries = rows[place]
            for rule in self._others.get(table, []):
                self._put(found, rows, self._head(rule, entries))
            place += 1
        return rows

    def together(self, lists):
        """The rows of all these lists, each where it comes first."""
        found = {}
        rows = []
        for some in lists:
            for row in some:
                self._put(found, rows, row)
        return rows

    def as_told(self, rows):
        """The rows with made values as they are told."""
        made = []
        for rule, word, border in self._made:
            made.append((rule, word, _told(made, border)))
        return [(table, _told(made, entries)) for table, entries in rows]

    def inner(self, rows):
        """Those of the rows that have no value of a column in them, however deep."""
        are_inner = []
        for _, _, border in self._made:
            are_inner.append(_all_inner(are_inner, border))
        return [row for row in rows if _all_inner(are_inner, row[1])]

    def _put(self, found, rows, row):
        if row not in found:
            found[row] = True
            rows.append(row)
            if len(rows) > self._most:
                raise TooMany(self._most)

    def _head(self, rule, values):
        """The row that a rule makes of these values."""
        name, _, (table, entries) = rule
        border = tuple([values[place] for place in self._borders[name]])
        own = [self._number(name, entry[1], border) if is_new(entry) else values[entry] for entry in entries]
        return (table, tuple(own))

    def _number(self, rule, word, border):
        """The number of a made value, the next one if it is new."""
        made = (rule, word, border)
        if made not in self._numbers:
            self._numbers[made] = FIRST_MADE + len(self._made)
            self._made.append(made)
        return self._numbers[made]


def check_most(most):
    """Refuse what is no number of rows that may be the most."""
    if not is_number(most) or most < 1:
        raise NoCount(most)


def _told(made, values):
    """Values as they are told, where the made ones are told so, by their numbers."""
    return tuple([made[value - FIRST_MADE] if value >= FIRST_MADE else value for value in values])


def _all_inner(are_inner, values):
    return all([value >= FIRST_MADE and are_inner[value - FIRST_MADE] for value in values])
