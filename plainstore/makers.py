"""Rules one by one: what they look like, and what stands in them."""

from plainstore.deeds import is_name
from plainstore.limits import is_within

BASE = "base"
NEW = "new"
WIDEST = 3


def is_rule(value):
    """Whether any value is a rule."""
    if not isinstance(value, tuple) or len(value) != 3:
        return False
    name, source, head = value
    return is_name(name) and _is_source(source) and _is_head(head, width_of(source))


def is_base(rule):
    """Whether a rule makes rows of the rows of keys; a table may be called base, too."""
    return isinstance(rule[1][1], tuple)


def width_of(source):
    """How many places a source has."""
    _, what = source
    return len(what) if isinstance(what, tuple) else what


def border_of(rule):
    """The numbers among the entries of a rule, each once, in the order in which they come."""
    return list({entry: True for entry in rule[2][1] if not is_new(entry)})


def is_new(entry):
    """Whether an entry of a rule is made anew, not taken from the source."""
    return isinstance(entry, tuple)


def tables_of(rule):
    """The pairs (table, width) of a rule, its source ahead of its head."""
    _, source, (table, entries) = rule
    head = [(table, len(entries))]
    return head if is_base(rule) else [source] + head


def are_columns(value, least, most):
    """Whether any value is a tuple of so many unlike names."""
    if not isinstance(value, tuple) or not least <= len(value) <= most or not all([is_name(name) for name in value]):
        return False
    return len(set(value)) == len(value)


def _is_source(value):
    if not isinstance(value, tuple) or len(value) != 2:
        return False
    word, what = value
    if isinstance(what, tuple):
        return isinstance(word, str) and word == BASE and are_columns(what, 1, WIDEST)
    return is_name(word) and is_within(what, 1, WIDEST)


def _is_head(value, width):
    if not isinstance(value, tuple) or len(value) != 2:
        return False
    table, entries = value
    if not is_name(table) or not isinstance(entries, tuple) or not 1 <= len(entries) <= WIDEST:
        return False
    return all([is_within(entry, 0, width - 1) or _is_new_entry(entry) for entry in entries])


def _is_new_entry(value):
    if not isinstance(value, tuple) or len(value) != 2:
        return False
    word, name = value
    return isinstance(word, str) and word == NEW and is_name(name)
