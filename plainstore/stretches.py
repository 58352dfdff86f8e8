"""Stretches of moments at which lines of two lists of deeds are unlike.

A line is "columns" or a key. What is so behind a deed stays so until the next one,
so it is enough to look at the moments of deeds.
"""

from plainstore.columns import cells_of, fills_of, map_of, stored_of, story_of
from plainstore.limits import KEYS, LAST_MOMENT


def touched_lines(before, after):
    """The dict from the touched lines to their stretches."""
    moments = _moments_of(before, after)
    return _unlike_lines(moments, _states(before, moments), _states(after, moments))


def shown_lines(before, after):
    """The dict from the shown lines to their stretches."""
    moments = _moments_of(before, after)
    one = [_view(state) for state in _states(before, moments)]
    return _unlike_lines(moments, one, [_view(state) for state in _states(after, moments)])


def do_meet(one, other):
    """Whether two dicts of stretches have a moment of a line in common."""
    for line in one:
        for first, last in one[line]:
            if any([first <= end and begin <= last for begin, end in other.get(line, ())]):
                return True
    return False


def _moments_of(before, after):
    return sorted(set([deed[0] for deed in before + after]))


def _states(deeds, moments):
    """For each moment the dict from lines to the map and the cells."""
    told = story_of(deeds)
    fills = fills_of(told)
    maps = {moment: map_of(told, moment) for moment in moments}
    states = []
    for moment in moments:
        state = {"columns": maps[moment]}
        for key in KEYS:
            stored = stored_of(deeds, key, moment)
            then = {} if stored is None else maps[stored[0]]
            state[key] = cells_of(fills, stored, then, maps[moment])
        states.append(state)
    return states


def _view(state):
    """The state as readers are shown it: by names, and without rows that have no column."""
    names = state["columns"]
    view = {"columns": sorted(names.values())}
    for key in KEYS:
        cells = state[key]
        view[key] = {names[column]: cells[column] for column in cells} if cells else None
    return view


def _unlike_lines(moments, ones, others):
    told = {}
    for line in ["columns", *KEYS]:
        unlike = [one[line] != other[line] for one, other in zip(ones, others)]
        if any(unlike):
            told[line] = _stretches(moments, unlike)
    return told


def _stretches(moments, unlike):
    """The greatest stretches; each mark holds from its moment until the next one, the last one to the end."""
    ends = [moment - 1 for moment in moments[1:]] + [LAST_MOMENT]
    told = []
    for first, last, is_unlike in zip(moments, ends, unlike):
        if is_unlike and told and told[-1][1] == first - 1:
            told[-1] = (told[-1][0], last)
        elif is_unlike:
            told.append((first, last))
    return tuple(told)
