"""The checks of arguments that many modules share: each raises the error that its argument names."""

from plainstore.deeds import is_name
from plainstore.errors import NoKey, NoMoment, NoName, NoPast
from plainstore.limits import LAST_MOMENT, is_key, is_within
from plainstore.pasts import Past


def check_past(past):
    """Refuse what is no Past."""
    if not isinstance(past, Past):
        raise NoPast(past)


def check_key(key):
    """Refuse what is no key."""
    if not is_key(key):
        raise NoKey(key)


def check_name(name):
    """Refuse what is no name."""
    if not is_name(name):
        raise NoName(name)


def check_time(t):
    """Refuse what is no moment to look at; 0 is one, ahead of all deeds."""
    if not is_within(t, 0, LAST_MOMENT):
        raise NoMoment(t)
