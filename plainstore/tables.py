"""The plain table, reckoned from any list of deeds that stands in the order of its moments.

The lists may be longer than a past may be: changes and readers look at such, too.
"""


def table_of(deeds, t):
    """The columns, a list of pairs (name, fill), and the rows, a dict from keys to lists of values."""
    columns = []
    rows = {}
    for deed in deeds:
        if deed[0] <= t:
            act = ACTS[deed[1]]
            columns, rows = act(columns, rows, deed)
    return columns, rows


def rows_by_names(deeds, t):
    """The dict from the keys that have rows, ascending, to dicts from the names of columns to values."""
    columns, rows = table_of(deeds, t)
    names = [name for name, _ in columns]
    return {key: dict(zip(names, rows[key])) for key in sorted(rows)}


def answer_of(deeds, key, name, t):
    """What is asked of a key and a name: its value, or why there is none."""
    columns, rows = table_of(deeds, t)
    names = [own for own, _ in columns]
    if name not in names:
        return "no column"
    if key not in rows:
        return "no row"
    return rows[key][names.index(name)]


def is_idle(names, alter):
    """Whether an alter does nothing where the columns have these names."""
    _, word, name, *more = alter
    if word == "add":
        return name in names
    if word == "drop":
        return name not in names
    return name not in names or more[0] in names


def _put(columns, rows, deed):
    given = dict(deed[3])
    return columns, {**rows, deed[2]: [given.get(name, fill) for name, fill in columns]}


def _strike(columns, rows, deed):
    return columns, {key: rows[key] for key in rows if key != deed[2]}


def _alter(columns, rows, deed):
    names = [name for name, _ in columns]
    if is_idle(names, deed):
        return columns, rows
    if deed[1] == "add":
        return columns + [(deed[2], deed[3])], {key: rows[key] + [deed[3]] for key in rows}
    place = names.index(deed[2])
    if deed[1] == "drop":
        return _left_out(columns, place), {key: _left_out(rows[key], place) for key in rows}
    renamed = (deed[3], columns[place][1])
    return columns[:place] + [renamed] + columns[place + 1:], rows


def _left_out(listed, place):
    return listed[:place] + listed[place + 1:]


ACTS = {"put": _put, "strike": _strike, "add": _alter, "drop": _alter, "rename": _alter}
