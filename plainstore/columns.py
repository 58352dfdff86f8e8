"""The stories of columns and rows, reckoned from any list of deeds that stands in the order of its moments.

The lists may be longer than a past may be: changes look at such, too.
"""

from plainstore.deeds import ALTERS
from plainstore.tables import is_idle


def alters_that_do(deeds):
    """The alters that are not idle, in order."""
    names = []
    doing = []
    for deed in deeds:
        if deed[1] in ALTERS and not is_idle(names, deed):
            names = _names_behind(names, deed)
            doing.append(deed)
    return doing


def story_of(deeds):
    """For each column that ever is, by ids: (id, fill, names, end)."""
    fills = {}
    names = {}
    ends = {}
    living = {}
    for moment, word, name, *more in alters_that_do(deeds):
        if word == "add":
            living[name] = moment
            fills[moment] = more[0]
            names[moment] = ((moment, name),)
        elif word == "drop":
            ends[living.pop(name)] = moment
        else:
            column = living.pop(name)
            living[more[0]] = column
            names[column] += ((moment, more[0]),)
    return [(column, fills[column], names[column], ends.get(column)) for column in fills]


def map_of(story, t):
    """The dict from the ids of the columns that live at t to their names."""
    told = {}
    for column, _, names, end in story:
        if column <= t and (end is None or t < end):
            told[column] = [name for moment, name in names if moment <= t][-1]
    return told


def last_row_deed(deeds, key, t):
    """The last row deed of a key up to t, or None."""
    own = [deed for deed in deeds if deed[0] <= t and deed[1] not in ALTERS and deed[2] == key]
    return own[-1] if own else None


def stored_of(deeds, key, t):
    """The stored row of a key at t, or None."""
    last = last_row_deed(deeds, key, t)
    if last is None or last[1] == "strike":
        return None
    return (last[0], last[3])


def cells_of(fills, stored, then, now):
    """The cells of a stored row, by the maps at its moment and at the one that is asked for."""
    if stored is None:
        return None
    given = dict(stored[1])
    # A column that did not live then has the name None there, which no pair has.
    return {column: given.get(then.get(column), fills[column]) for column in now}


def fills_of(story):
    """The dict from the ids of a story to the fills."""
    return {row[0]: row[1] for row in story}


def _names_behind(names, alter):
    _, word, name, *more = alter
    if word == "add":
        return names + [name]
    if word == "drop":
        return [own for own in names if own != name]
    return [more[0] if own == name else own for own in names]
