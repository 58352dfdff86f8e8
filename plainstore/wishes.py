"""Wishes: the least changes of a past by which a cell has a wished value."""

from plainstore.arguments import check_past
from plainstore.changes import deeds_behind, is_change_among
from plainstore.columns import last_row_deed, map_of, story_of
from plainstore.deeds import ALTERS, is_name
from plainstore.errors import NoChange, NoWish, TooMany
from plainstore.limits import FIRST_MOMENT, LAST_MOMENT, is_key, is_value, is_within
from plainstore.tables import answer_of, table_of

MOST_DEEDS_TRIED = 20


def is_so(past, wish):
    """Whether what is asked of the key and the name has the wished value."""
    check_past(past)
    _check_wish(wish)
    return _is_so(past.deeds(), wish)


def least_changes(past, wish):
    """The list of the fewest changes by which it is so, [] if it is, None if not even the told two do it."""
    check_past(past)
    _check_wish(wish)
    if len(past) > MOST_DEEDS_TRIED:
        raise TooMany(MOST_DEEDS_TRIED)
    deeds = past.deeds()
    if _is_so(deeds, wish):
        return []
    for deed in deeds:
        if _is_so(deeds_behind(deeds, ("out", deed[0])), wish):
            return [("out", deed[0])]
    for moment in _least_free(past.listed(), wish[2]):
        for deed in _puttings(deeds, moment, wish):
            if _is_so(deeds_behind(deeds, ("in", deed)), wish):
                return [("in", deed)]
    return _add_and_put(deeds, wish)


def does(past, wish, changes):
    """Whether a list or tuple of changes, made one behind the other, leads to what is wished."""
    check_past(past)
    _check_wish(wish)
    if not isinstance(changes, (list, tuple)):
        raise NoChange(None)
    deeds = past.deeds()
    for change in changes:
        if not is_change_among([deed[0] for deed in deeds], change):
            raise NoChange(change)
        deeds = deeds_behind(deeds, change)
    return _is_so(deeds, wish)


def _check_wish(value):
    if not _is_wish(value):
        raise NoWish(value)


def _is_wish(value):
    if not isinstance(value, tuple) or len(value) != 4:
        return False
    key, name, t, meant = value
    return is_key(key) and is_name(name) and is_within(t, 0, LAST_MOMENT) and is_value(meant)


def _is_so(deeds, wish):
    key, name, t, value = wish
    return answer_of(deeds, key, name, t) == value


def _least_free(moments, t):
    """The least free moment up to t of each stretch between deeds that has one."""
    firsts = [FIRST_MOMENT] + [moment + 1 for moment in moments]
    return [moment for moment in firsts if moment <= t and moment not in moments]


def _puttings(deeds, moment, wish):
    """The deeds that may be put in at this free moment, in order, but for alters that do nothing there."""
    key, _, _, value = wish
    names = _names_in(deeds, wish)
    columns, _ = table_of(deeds, moment)
    there = [name for name, _ in columns]
    others = [name for name in names if name not in there]
    told = [(moment, "put", key, _wished_pairs(deeds, moment, wish))]
    told.extend([(moment, "add", name, value) for name in others])
    told.extend([(moment, "drop", name) for name in names if name in there])
    told.extend([(moment, "rename", name, other) for name in names if name in there for other in others])
    return told


def _wished_pairs(deeds, moment, wish):
    """The pair of the value and of the name that the column asked has at this moment, if it lives there."""
    _, name, t, value = wish
    story = story_of(deeds)
    asked = [column for column, own in map_of(story, t).items() if own == name]
    there = map_of(story, moment)
    return tuple([(there[column], value) for column in asked if column in there])


def _names_in(deeds, wish):
    """All names in the deeds, also in pairs, and the wished one, ascending."""
    names = {wish[1]: True}
    for _, word, *parts in deeds:
        own = [name for name, _ in parts[1]] if word == "put" else [part for part in parts if is_name(part)]
        for name in own:
            names[name] = True
    return sorted(names)


def _add_and_put(deeds, wish):
    """The add of the column and the put of the row, if both are lacking and there is room for both, or None."""
    key, name, t, value = wish
    columns, rows = table_of(deeds, t)
    if key in rows or name in [own for own, _ in columns]:
        return None
    last_alter = max([deed[0] for deed in deeds if deed[0] <= t and deed[1] in ALTERS], default=0)
    last = last_row_deed(deeds, key, t)
    moments = [deed[0] for deed in deeds]
    for_add = [moment for moment in range(last_alter + 1, t + 1) if moment not in moments]
    for_put = [moment for moment in range(1 if last is None else last[0] + 1, t + 1) if moment not in moments]
    if not for_add or not [moment for moment in for_put if moment != for_add[0]]:
        return None
    other = [moment for moment in for_put if moment != for_add[0]][0]
    return [("in", (for_add[0], "add", name, value)), ("in", (other, "put", key, ()))]
