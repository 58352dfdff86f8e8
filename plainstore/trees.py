"""Trees: conditions in which the numbers of their tests stand in the place of these."""

NODES = ("not", "all", "any")
OPPOSITES = {"yes": "no", "no": "yes", "fault": "fault"}
ENDINGS = {"all": "no", "any": "yes"}


def parts_of(condition):
    """The parts of a condition, none of a test."""
    if condition[0] == "not":
        return (condition[1],)
    return condition[1] if condition[0] in NODES else ()


def tests_within(condition):
    """The tests of a condition, as they stand."""
    if condition[0] not in NODES:
        return [condition]
    told = []
    for part in parts_of(condition):
        told.extend(tests_within(part))
    return told


def tree_of(condition):
    """The tree of a condition, its tests numbered as they stand."""
    numbered, _ = _numbered(condition, 0)
    return numbered


def condition_of(tree, tests):
    """The condition of a tree, with these tests in the places of their numbers."""
    if isinstance(tree, int):
        return tests[tree]
    if tree[0] == "not":
        return ("not", condition_of(tree[1], tests))
    return (tree[0], tuple([condition_of(part, tests) for part in tree[1]]))


def run_tree(tree, answers):
    """The pair of the outcome and of the list of the tests asked, if tests have these answers."""
    if isinstance(tree, int):
        return answers[tree], [tree]
    if tree[0] == "not":
        told, asked_ones = run_tree(tree[1], answers)
        return OPPOSITES[told], asked_ones
    ending = ENDINGS[tree[0]]
    asked_ones = []
    for part in tree[1]:
        told, more = run_tree(part, answers)
        asked_ones.extend(more)
        if told in ("fault", ending):
            return told, asked_ones
    return OPPOSITES[ending], asked_ones


def _numbered(condition, first):
    """The tree of a part whose first test has this number, and the number of the next test behind it."""
    if condition[0] not in NODES:
        return first, first + 1
    told = []
    for part in parts_of(condition):
        tree, first = _numbered(part, first)
        told.append(tree)
    return (condition[0], told[0] if condition[0] == "not" else tuple(told)), first
