"""Changes of a past, and what they touch."""

from plainstore.arguments import check_past
from plainstore.deeds import in_order, is_deed
from plainstore.errors import NoChange, NoMoment
from plainstore.limits import is_number
from plainstore.stretches import do_meet, shown_lines, touched_lines


def is_change(past, value):
    """Whether any value is a change of the past."""
    check_past(past)
    return is_change_among(past.listed(), value)


def changed(past, change):
    """The past behind the change."""
    check_change(past, change)
    word, what = change
    return past.with_deed(what) if word == "in" else past.without(what)


def opposite(past, change):
    """The change that takes the change back."""
    check_change(past, change)
    word, what = change
    return ("out", what[0]) if word == "in" else ("in", past[what])


def touched(past, change):
    """The dict from the touched lines to the tuples of stretches."""
    check_change(past, change)
    deeds = past.deeds()
    return touched_lines(deeds, deeds_behind(deeds, change))


def shown(past, change):
    """The dict from the shown lines to the tuples of stretches."""
    check_change(past, change)
    deeds = past.deeds()
    return shown_lines(deeds, deeds_behind(deeds, change))


def are_apart(past, one, other):
    """Whether two changes have no moment of a line in common, and leave alone what the other touches."""
    check_change(past, one)
    check_change(past, other)
    if moment_of(one) == moment_of(other):
        raise NoMoment(moment_of(one))
    deeds = past.deeds()
    with_one = deeds_behind(deeds, one)
    with_other = deeds_behind(deeds, other)
    with_both = deeds_behind(with_one, other)
    by_one = touched_lines(deeds, with_one)
    by_other = touched_lines(deeds, with_other)
    if do_meet(by_one, by_other):
        return False
    return touched_lines(with_other, with_both) == by_one and touched_lines(with_one, with_both) == by_other


def check_change(past, change):
    """Refuse what is no past, then what is no change of it."""
    if not is_change(past, change):
        raise NoChange(change)


def is_change_among(moments, value):
    """Whether any value is a change where there are deeds at these moments, however many."""
    if not isinstance(value, tuple) or len(value) != 2 or not isinstance(value[0], str):
        return False
    word, what = value
    if word == "in":
        return is_deed(what) and what[0] not in moments
    return word == "out" and is_number(what) and what in moments


def moment_of(change):
    """The moment at which a change puts or takes a deed."""
    word, what = change
    return what[0] if word == "in" else what


def told_change(change):
    """The change with the pairs of its deed by names."""
    word, what = change
    return ("in", in_order(what)) if word == "in" else ("out", what)


def deeds_behind(deeds, change):
    """The list of deeds behind a change, in order, however many there are."""
    word, what = change
    if word == "in":
        return sorted(deeds + [in_order(what)])
    return [deed for deed in deeds if deed[0] != what]
