"""What is told of one row, and asked of the rows that it makes: whether it is in its form."""

from plainstore.deeds import is_name
from plainstore.errors import NoQuestion, NoTold
from plainstore.limits import is_value, is_within

MOST_MARKS = 9


def is_picture(rules, present, known, value):
    """Whether any value is a picture of a row of one of the tables."""
    if not isinstance(value, tuple) or len(value) != 2 or not _is_wide(rules, value[0], value[1]):
        return False
    many = 0
    for cell in value[1]:
        if not _is_cell(present, known, many, cell):
            return False
        many = max(many, cell[1] if cell[0] == "made" else 0)
    return True


def is_question(rules, value):
    """Whether any value is a question of one of the tables."""
    if not isinstance(value, tuple) or len(value) != 2 or not _is_wide(rules, value[0], value[1]):
        return False
    return all([is_value(entry) or _is_mark(entry) for entry in value[1]])


def is_listed_once(value):
    """Whether any value is a list or tuple of unlike names."""
    if not isinstance(value, (list, tuple)) or not all([is_name(name) for name in value]):
        return False
    return len(set(value)) == len(value)


def is_known(present, value):
    """Whether any value is a dict from some of the names to values."""
    if not isinstance(value, dict):
        return False
    return all([is_name(name) and name in present and is_value(value[name]) for name in value])


def check_present(present):
    """Refuse what are no names of columns."""
    if not is_listed_once(present):
        raise NoTold(present)


def check_told(present, known):
    """Refuse what are no names of columns, then what are no values of some of these."""
    check_present(present)
    if not is_known(present, known):
        raise NoTold(known)


def check_question(rules, question):
    """Refuse what is no question of one of the tables."""
    if not is_question(rules, question):
        raise NoQuestion(question)


def _is_wide(rules, table, entries):
    """Whether any values are one of the tables and a tuple of its width."""
    widths = rules.tables()
    if not isinstance(table, str) or table not in widths:
        return False
    return isinstance(entries, tuple) and len(entries) == widths[table]


def _is_mark(value):
    if not isinstance(value, tuple) or len(value) != 2:
        return False
    word, number = value
    return isinstance(word, str) and word == "mark" and is_within(number, 1, MOST_MARKS)


def _is_cell(present, known, many, value):
    """Whether any value is an entry of a picture that has so many made values ahead of it."""
    if not isinstance(value, tuple) or len(value) != 2 or not isinstance(value[0], str):
        return False
    word, what = value
    if word == "value":
        return is_value(what)
    if word == "column":
        return is_name(what) and what in present and what not in known
    return word == "made" and is_within(what, 1, many + 1)
