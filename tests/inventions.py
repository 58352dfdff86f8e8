"""Plain reckonings on rules and the rows that they invent, with nothing taken from the program."""

from tests.plainly import state_at
from tests.reckon import NAMES

TABLES = ("h", "k", "base", "to", "row")
WORDS = ("n", "m")


def is_base(rule):
    return isinstance(rule[1][1], tuple)


def border_of(rule):
    told = []
    for entry in rule[2][1]:
        if isinstance(entry, int) and entry not in told:
            told.append(entry)
    return told


def head_of(rule, values):
    """The row that a rule makes of these values of its source."""
    name, _, (table, entries) = rule
    border = tuple(values[place] for place in border_of(rule))
    return (table, tuple(values[e] if isinstance(e, int) else (name, e[1], border) for e in entries))


def rows_of_one(rules, values, most=3000):
    """What one row makes, in order; None if there are more rows than the most."""
    told = []
    for rule in rules:
        if is_base(rule) and set(rule[1][1]) <= set(values):
            row = head_of(rule, [values[name] for name in rule[1][1]])
            told += [] if row in told else [row]
    for row in told:
        for rule in rules:
            if not is_base(rule) and rule[1][0] == row[0]:
                other = head_of(rule, row[1])
                if other not in told:
                    told.append(other)
        if len(told) > most:
            return None
    return told


def rows_of_all(rules, rows, keys, most=3000):
    """What the rows of these keys make, key by key, each where it comes first."""
    told = []
    for key in keys:
        for row in rows_of_one(rules, rows[key], most):
            told += [] if row in told else [row]
    return told


def rows_at(deeds, t):
    """The rows by keys of the deeds up to t."""
    state = state_at(deeds, t)
    return {key: state.row(key) for key in sorted(state.rows)}


def depth_of(value):
    return 0 if isinstance(value, int) else 1 + max([depth_of(inside) for inside in value[2]], default=0)


def has_value(value):
    """Whether a value of a column stands in it, however deep."""
    return isinstance(value, (int, str)) or any(has_value(inside) for inside in value[2])


def renumbered(rows):
    """The rows as a reader numbers the made values in them."""
    seen = []
    told = []
    for table, entries in rows:
        cells = []
        for entry in entries:
            if not isinstance(entry, int):
                seen += [] if entry in seen else [entry]
                entry = ("n", seen.index(entry))
            cells.append(entry)
        told.append((table, tuple(cells)))
    return told


def reached_tables(rules):
    told = {rule[2][0] for rule in rules if is_base(rule)}
    for _ in rules:
        told |= {rule[2][0] for rule in rules if not is_base(rule) and rule[1][0] in told}
    return told


def arrows_of(rule):
    """The arrows (from, to, word) of a rule from a table, by from, then to."""
    told = []
    for start in range(rule[1][1]):
        for end, entry in enumerate(rule[2][1]):
            if entry == start:
                told.append((start, end, "move"))
            elif not isinstance(entry, int) and start in border_of(rule):
                told.append((start, end, "making"))
    return told


def tables_of(rules):
    """The widths by tables, in the order in which they come."""
    told = {}
    for rule in rules:
        if not is_base(rule):
            told.setdefault(*rule[1])
        told.setdefault(rule[2][0], len(rule[2][1]))
    return told


def raised_numbers(rules):
    """The numbers of places, raised until nothing rises; None if they rise without end."""
    widths = tables_of(rules)
    reached = reached_tables(rules)
    told = {(table, at): 0 for table in widths if table in reached for at in range(widths[table])}
    used = [rule for rule in rules if is_base(rule) or rule[1][0] in reached]
    for _ in range(40):
        ahead = dict(told)
        for rule in used:
            for at, entry in enumerate(rule[2][1]):
                place = (rule[2][0], at)
                if not isinstance(entry, int) and (is_base(rule) or not border_of(rule)):
                    told[place] = max(told[place], 1)
            if not is_base(rule):
                for start, end, word in arrows_of(rule):
                    least = told[(rule[1][0], start)] + (word == "making")
                    told[(rule[2][0], end)] = max(told[(rule[2][0], end)], least)
        if told == ahead:
            return told
    return None


def some_rules(rng, most=6, names=NAMES[:4], fresh=0.3):
    """A list of rules of any kind."""
    widths = {table: rng.choice((1, 2, 2, 3)) for table in rng.sample(TABLES, rng.randrange(1, 5))}
    many = rng.randrange(1, most + 1)
    told = []
    for name in rng.sample(("a", "b", "f", "g", "to", "base", "zz"), many):
        if rng.random() < 0.4 or not told:
            own = tuple(rng.sample(names, rng.randrange(1, 1 + min(3, len(names)))))
            source, width = ("base", own), len(own)
        else:
            table = rng.choice(sorted(widths))
            source, width = (table, widths[table]), widths[table]
        table = rng.choice(sorted(widths))
        entries = tuple(("new", rng.choice(WORDS)) if rng.random() < fresh else rng.randrange(width)
                        for _ in range(widths[table]))
        told.append((name, source, (table, entries)))
    return told


def some_ending(rng, most=6, names=NAMES[:4], fresh=0.3):
    """A list of rules that end."""
    while True:
        rules = some_rules(rng, most, names, fresh)
        if raised_numbers(rules) is not None:
            return rules


def plain_picture(row, known):
    """The picture of a row that was made where a column stands by its name."""
    seen = []
    cells = []
    for entry in row[1]:
        if isinstance(entry, str):
            cells.append(("value", known[entry]) if entry in known else ("column", entry))
        else:
            seen += [] if entry in seen else [entry]
            cells.append(("made", 1 + seen.index(entry)))
    return (row[0], tuple(cells))


def plain_album(rules, present, known):
    """The pictures of what comes of a row, in order of coming; rows are made while there are new pictures."""
    told = []
    waiting = []
    for rule in rules:
        if is_base(rule) and set(rule[1][1]) <= set(present):
            row = head_of(rule, list(rule[1][1]))
            if plain_picture(row, known) not in told:
                told.append(plain_picture(row, known))
                waiting.append(row)
    for row in waiting:
        for rule in rules:
            if not is_base(rule) and rule[1][0] == row[0]:
                other = head_of(rule, row[1])
                if plain_picture(other, known) not in told:
                    told.append(plain_picture(other, known))
                    waiting.append(other)
    return told
