"""The stories of columns, and the rows as they were stored."""

from plainstore.arguments import check_key, check_past, check_time
from plainstore.columns import alters_that_do, cells_of, fills_of, map_of, stored_of, story_of
from plainstore.deeds import ALTERS


def idle(past):
    """The moments of the alters that do nothing, ascending."""
    check_past(past)
    deeds = past.deeds()
    doing = [deed[0] for deed in alters_that_do(deeds)]
    return [deed[0] for deed in deeds if deed[1] in ALTERS and deed[0] not in doing]


def story(past):
    """For each column that ever is, by ids: (id, fill, names, end)."""
    check_past(past)
    return story_of(past.deeds())


def map_at(past, t):
    """The dict from the ids of the columns that live at t to their names, ascending."""
    check_past(past)
    check_time(t)
    return map_of(story_of(past.deeds()), t)


def stored_at(past, key, t):
    """The pair (moment, pairs) of the put that the row of a key comes from, or None."""
    check_past(past)
    check_key(key)
    check_time(t)
    return stored_of(past.deeds(), key, t)


def cells_at(past, key, t):
    """The dict from the ids of the columns that live at t to the key's values, or None."""
    stored = stored_at(past, key, t)
    if stored is None:
        return None
    told = story_of(past.deeds())
    return cells_of(fills_of(told), stored, map_of(told, stored[0]), map_of(told, t))
