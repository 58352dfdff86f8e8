"""Deeds: rows are put and struck, columns are added, dropped and renamed."""

from plainstore.errors import NoDeed
from plainstore.limits import is_key, is_moment, is_value

LETTERS = "abcdefghijklmnopqrstuvwxyz"
LONGEST_NAME = 4
MOST_PAIRS = 4
ALTERS = ("add", "drop", "rename")


def is_name(value):
    """Whether any value is a text of one to four small letters."""
    if not isinstance(value, str) or not 1 <= len(value) <= LONGEST_NAME:
        return False
    return all([letter in LETTERS for letter in value])


def is_deed(value):
    """Whether any value is a deed."""
    if not isinstance(value, tuple) or len(value) < 3:
        return False
    moment, word, *parts = value
    # A word of another kind might have an == of its own, so its kind is asked first.
    if not is_moment(moment) or not isinstance(word, str) or word not in FORMS:
        return False
    form = FORMS[word]
    return form(parts)


def is_alter(deed):
    """Whether a deed adds, drops or renames a column."""
    _check_deed(deed)
    return deed[1] in ALTERS


def key_of(deed):
    """The key of the row that a deed puts or strikes, None of an alter."""
    return None if is_alter(deed) else deed[2]


def in_order(deed):
    """The deed with its pairs in the order of their names."""
    _check_deed(deed)
    if deed[1] == "put":
        moment, word, key, pairs = deed
        return (moment, word, key, tuple(sorted(pairs)))
    return deed


def _check_deed(value):
    if not is_deed(value):
        raise NoDeed(value)


def _is_put(parts):
    return len(parts) == 2 and is_key(parts[0]) and _are_pairs(parts[1])


def _is_strike(parts):
    return len(parts) == 1 and is_key(parts[0])


def _is_add(parts):
    return len(parts) == 2 and is_name(parts[0]) and is_value(parts[1])


def _is_drop(parts):
    return len(parts) == 1 and is_name(parts[0])


def _is_rename(parts):
    return len(parts) == 2 and is_name(parts[0]) and is_name(parts[1])


def _are_pairs(value):
    if not isinstance(value, tuple) or len(value) > MOST_PAIRS:
        return False
    if not all([_is_pair(pair) for pair in value]):
        return False
    return len(set([pair[0] for pair in value])) == len(value)


def _is_pair(value):
    return isinstance(value, tuple) and len(value) == 2 and is_name(value[0]) and is_value(value[1])


FORMS = {"put": _is_put, "strike": _is_strike, "add": _is_add, "drop": _is_drop, "rename": _is_rename}
