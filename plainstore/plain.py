"""What is plainly there at each moment."""

from plainstore.arguments import check_key, check_name, check_past, check_time
from plainstore.tables import answer_of, rows_by_names, table_of


def columns_at(past, t):
    """The list of the columns as pairs (name, fill), in order."""
    check_past(past)
    check_time(t)
    columns, _ = table_of(past.deeds(), t)
    return list(columns)


def row_at(past, key, t):
    """The dict from the names of the columns to the values of this key's row, None without a row."""
    check_past(past)
    check_key(key)
    return rows_at(past, t).get(key)


def rows_at(past, t):
    """The dict from the keys that have rows, ascending, to these rows."""
    check_past(past)
    check_time(t)
    return rows_by_names(past.deeds(), t)


def ask(past, key, name, t):
    """The value of this key in the column of this name, or "no column", or "no row"."""
    check_past(past)
    check_key(key)
    check_name(name)
    check_time(t)
    return answer_of(past.deeds(), key, name, t)
