"""Conditions: tests of one key at one moment, and what is made of them by not, all and any."""

from math import factorial

from plainstore.arguments import check_key, check_past, check_time
from plainstore.deeds import is_name
from plainstore.errors import NoCondition
from plainstore.limits import is_value
from plainstore.tables import table_of
from plainstore.trees import NODES, parts_of, run_tree, tests_within, tree_of

MOST_TESTS = 8
MOST_NAMES = 3
MOST_VALUES = 3
MOST_NODES_WITHIN = 3
MOST_PARTS = 6


def is_condition(value):
    """Whether any value is a condition."""
    if not _is_form(value, MOST_NODES_WITHIN):
        return False
    tests = tests_within(value)
    values = [test[2] for test in tests if len(test) == 3]
    if len(tests) > MOST_TESTS or len(set(values)) > MOST_VALUES:
        return False
    return len(set([test[1] for test in tests if len(test) > 1])) <= MOST_NAMES


def tests_of(condition):
    """The tests of a condition, as they stand."""
    check_condition(condition)
    return tests_within(condition)


def names_of(condition):
    """The names of a condition, in the order in which its tests first have them."""
    check_condition(condition)
    return list({test[1]: True for test in tests_within(condition) if len(test) > 1})


def paths(condition):
    """The pairs (path, part) of the whole and of all parts, a node ahead of its parts."""
    check_condition(condition)
    return _paths((), condition)


def run(condition, past, key, t):
    """The outcome for a past, a key and a moment: "yes", "no" or "fault"."""
    told, _ = _run(condition, past, key, t)
    return told


def asked(condition, past, key, t):
    """The list of the pairs (number of a test, its answer), in the order in which they are asked."""
    _, told = _run(condition, past, key, t)
    return told


def is_arrangement(condition, value):
    """Whether any value comes of a condition by any orders of the parts of its alls and anys."""
    check_condition(condition)
    return is_condition(value) and _sorted_parts(condition) == _sorted_parts(value)


def how_many_orders(condition):
    """The product, over the alls and anys, of the numbers of orders of their parts."""
    check_condition(condition)
    product_of_all = 1
    for _, part in _paths((), condition):
        product_of_all = product_of_all * factorial(len(parts_of(part)))
    return product_of_all


def check_condition(condition):
    """Refuse what is no condition."""
    if not is_condition(condition):
        raise NoCondition(condition)


def answers_at(tests, deeds, key, t):
    """The answers of tests by the deeds up to t, a list: each "yes", "no" or "fault"."""
    columns, rows = table_of(deeds, t)
    names = [name for name, _ in columns]
    return [_answer(test, names, rows.get(key)) for test in tests]


def said(truth):
    """A truth as an answer."""
    return "yes" if truth else "no"


def _answer(test, names, row):
    word, *parts = test
    if word == "row":
        return said(row is not None)
    if word == "has":
        return said(parts[0] in names)
    if row is None or parts[0] not in names:
        return "fault"
    own = row[names.index(parts[0])]
    return said(own == parts[1] if word == "eq" else own < parts[1])


def _run(condition, past, key, t):
    check_past(past)
    check_condition(condition)
    check_key(key)
    check_time(t)
    answers = answers_at(tests_within(condition), past.deeds(), key, t)
    told, numbers = run_tree(tree_of(condition), answers)
    return told, [(number, answers[number]) for number in numbers]


def _is_form(value, within):
    """Whether any value is a test, or a node of such, with at most so many nodes one within another."""
    if not isinstance(value, tuple) or not value or not isinstance(value[0], str):
        return False
    word, *parts = value
    if word not in NODES:
        return _is_test(word, parts)
    if within == 0 or len(parts) != 1:
        return False
    if word == "not":
        return _is_form(parts[0], within - 1)
    return _are_parts(parts[0], within - 1) and (word == "any" or _stand_once(parts[0]))


def _is_test(word, parts):
    if word == "row":
        return not parts
    if word == "has":
        return len(parts) == 1 and is_name(parts[0])
    return word in ("eq", "less") and len(parts) == 2 and is_name(parts[0]) and is_value(parts[1])


def _are_parts(value, within):
    if not isinstance(value, tuple) or not 1 <= len(value) <= MOST_PARTS:
        return False
    return all([_is_form(part, within) for part in value])


def _stand_once(parts):
    """Whether among the parts of an all each guard stands once at most."""
    guards = [part for part in parts if part[0] in ("row", "has")]
    return len(set(guards)) == len(guards)


def _paths(path, part):
    told = [(path, part)]
    for place, other in enumerate(parts_of(part)):
        told.extend(_paths(path + (place,), other))
    return told


def _sorted_parts(condition):
    """What is alike for all arrangements of a condition, and for no other one."""
    word, *parts = condition
    if word == "not":
        return (word, _sorted_parts(parts[0]))
    if word in NODES:
        return (word, tuple(sorted([_sorted_parts(part) for part in parts[0]])))
    return condition
