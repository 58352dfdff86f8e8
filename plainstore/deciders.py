"""Deeds that are enough for an answer."""

from plainstore.arguments import check_key, check_past, check_time
from plainstore.columns import alters_that_do, last_row_deed
from plainstore.deeds import in_order, is_deed, is_name
from plainstore.limits import KEYS, LAST_MOMENT, is_key, is_number, is_within
from plainstore.plain import ask


def deciders(past, t):
    """The deeds that decide all answers at t, by moments."""
    check_past(past)
    check_time(t)
    return _deciding(past.deeds(), KEYS, t)


def deciders_of(past, key, t):
    """The deeds that decide the answers for this key at t, by moments."""
    check_past(past)
    check_key(key)
    check_time(t)
    return _deciding(past.deeds(), [key], t)


def are_enough(past, key, t, value):
    """Whether any value is a list or tuple of unlike deeds of the past up to t that has all deciders of the key."""
    needed = deciders_of(past, key, t)
    if not isinstance(value, (list, tuple)):
        return False
    known = [deed for deed in past.deeds() if deed[0] <= t]
    given = []
    for deed in value:
        if not is_deed(deed) or in_order(deed) not in known or in_order(deed) in given:
            return False
        given.append(in_order(deed))
    return all([deed in given for deed in needed])


def answer_paper(past, key, name, t):
    """The tuple ("answer", key, name, t, deeds, told), by which others can look at the answer themselves."""
    told = ask(past, key, name, t)
    return ("answer", key, name, t, deciders_of(past, key, t), told)


def accepts_answer(past, paper):
    """Whether any value is a right paper of an answer."""
    check_past(past)
    if not isinstance(paper, tuple) or len(paper) != 6:
        return False
    word, key, name, t, deeds, told = paper
    if not _is_same(word, "answer"):
        return False
    if not is_key(key) or not is_name(name) or not is_within(t, 0, LAST_MOMENT):
        return False
    return are_enough(past, key, t, deeds) and _is_same(told, ask(past, key, name, t))


def _is_same(value, meant):
    """Whether any value is this text or number; True is not the number 1."""
    if isinstance(meant, str):
        return isinstance(value, str) and value == meant
    return is_number(value) and value == meant


def _deciding(deeds, asked_keys, t):
    alters = [deed for deed in alters_that_do(deeds) if deed[0] <= t]
    lasts = [last_row_deed(deeds, key, t) for key in asked_keys]
    return sorted(alters + [deed for deed in lasts if deed is not None])
