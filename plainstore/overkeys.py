"""Conditions asked for several keys, one after another; whether a column is there is asked once."""

from math import lcm

from plainstore.arguments import check_past, check_time
from plainstore.conditions import answers_at, check_condition
from plainstore.errors import NoCount
from plainstore.limits import is_within
from plainstore.plans import check_costs, orders, places_ahead
from plainstore.ratios import lowered
from plainstore.trees import condition_of, run_tree, tests_within, tree_of

MOST_KEYS = 10


def run_over(condition, past, count, t):
    """The outcome: ("keys", list of the keys with "yes"), or ("fault", key)."""
    told, _ = _run_over(condition, past, count, t)
    return told


def asked_over(condition, past, count, t):
    """The list of the pairs (key, number of a test) that are asked."""
    _, told = _run_over(condition, past, count, t)
    return told


def mean_over(condition, costs, shares, count):
    """The mean cost of the condition, as it stands, over so many keys."""
    check_condition(condition)
    tests = tests_within(condition)
    check_costs(costs, shares, len(tests))
    _check_count(count)
    odds = Odds(tests, costs, shares, count)
    return odds.mean_of(_weigh(tree_of(condition), odds.rows()))


def cheapest_over(condition, costs, shares, count):
    """The pair of the told plan, the guarded arrangement of least mean over so many keys, and of its mean."""
    check_condition(condition)
    tests = tests_within(condition)
    check_costs(costs, shares, len(tests))
    _check_count(count)
    odds = Odds(tests, costs, shares, count)
    best, least = None, None
    for tree, weighed in _arranged(tree_of(condition), (), places_ahead(condition), odds.rows()):
        total = odds.total_of(weighed)
        if best is None or total < least:
            best, least = (tree, weighed), total
    return (condition_of(best[0], tests), odds.mean_of(best[1]))


class Odds:
    """The cases over which a mean over keys is taken, all in numbers over one denominator.

    A case is a set of names with columns, and a name of which no has is asked, or None. What a part weighs is told
    for each case: (yes, no, whole, cost), numbers over whole, cost also over that of the costs.
    """

    def __init__(self, tests, costs, shares, count):
        self._tests = tests
        self._shares = shares
        self._count = count
        self._scale = 1
        for _, bottom in costs:
            self._scale = lcm(self._scale, bottom)
        self._costs = [top * (self._scale // bottom) for top, bottom in costs]
        self._firsts = {}
        for number, test in enumerate(tests):
            if test[0] == "has" and test[1] not in self._firsts:
                self._firsts[test[1]] = number
        self._sets = self._weighed_sets()

    def rows(self):
        """What each test weighs, by numbers."""
        cases = [(some, name) for _, some in self._sets for name in [None] + list(self._firsts)]
        return [[self._leaf(number, some, name) for some, name in cases] for number in range(len(self._tests))]

    def total_of(self, weighed):
        """The mean over the keys of what weighs so, as a number over a denominator that is the same for all orders."""
        total = 0
        place = 0
        for weight, _ in self._sets:
            _, _, whole, cost = weighed[place]
            own = self._count * cost * _power(whole, self._count - 1)
            for name in self._firsts:
                place += 1
                yes, no, _, _ = weighed[place]
                is_asked = _power(whole, self._count) - _power(yes + no, self._count)
                own += self._costs[self._firsts[name]] * is_asked
            total += weight * own
            place += 1
        return total

    def mean_of(self, weighed):
        """The mean over the keys of what weighs so, as a fraction."""
        _, _, whole, _ = weighed[0]
        sets_together = sum([weight for weight, _ in self._sets])
        return lowered(self.total_of(weighed), sets_together * self._scale * _power(whole, self._count))

    def _weighed_sets(self):
        """The pairs (weight, names with columns), for all sets of names that have a has."""
        told = [(1, ())]
        for name in self._firsts:
            top, bottom = self._shares[self._firsts[name]]
            lacking = [(weight * (bottom - top), some) for weight, some in told]
            told = lacking + [(weight * top, some + (name,)) for weight, some in told]
        return told

    def _leaf(self, number, some, name):
        test = self._tests[number]
        if test[0] != "has":
            top, bottom = self._shares[number]
            return (top, bottom - top, bottom, self._costs[number] * bottom)
        if test[1] == name:
            return (0, 0, 1, 0)
        return (1, 0, 1, 0) if test[1] in some else (0, 1, 1, 0)


def _check_count(count):
    if not is_within(count, 1, MOST_KEYS):
        raise NoCount(count)


def _run_over(condition, past, count, t):
    check_past(past)
    check_condition(condition)
    _check_count(count)
    check_time(t)
    tests = tests_within(condition)
    kept = {}
    with_yes = []
    told = []
    for key in range(count):
        outcome, numbers = run_tree(tree_of(condition), answers_at(tests, past.deeds(), key, t))
        for number in numbers:
            if tests[number] not in kept:
                told.append((key, number))
            if tests[number][0] == "has":
                kept[tests[number]] = True
        if outcome == "fault":
            return ("fault", key), told
        if outcome == "yes":
            with_yes.append(key)
    return ("keys", with_yes), told


def _power(number, exponent):
    told = 1
    for _ in range(exponent):
        told = told * number
    return told


def _weigh(tree, rows):
    """What a tree weighs, as it stands."""
    if isinstance(tree, int):
        return rows[tree]
    if tree[0] == "not":
        return _turned(_weigh(tree[1], rows))
    return _joined(tree[0], [_weigh(part, rows) for part in tree[1]])


def _arranged(tree, path, ahead, rows):
    """The pairs of the guarded arrangements of the part at a path and of what they weigh, by their places."""
    if isinstance(tree, int):
        return [(tree, rows[tree])]
    if tree[0] == "not":
        return [(("not", part), _turned(own)) for part, own in _arranged(tree[1], path + (0,), ahead, rows)]
    choices = [()]
    for place, part in enumerate(tree[1]):
        some = _arranged(part, path + (place,), ahead, rows)
        choices = [choice + (one,) for choice in choices for one in some]
    told = []
    for order in orders(len(tree[1]), ahead.get(path, [])):
        for choice in choices:
            parts = tuple([choice[place][0] for place in order])
            told.append(((tree[0], parts), _joined(tree[0], [choice[place][1] for place in order])))
    return told


def _turned(weighed):
    return [(no, yes, whole, cost) for yes, no, whole, cost in weighed]


def _joined(word, parts):
    """What an all or an any of parts weighs that weigh so."""
    return [_chain(word, [part[case] for part in parts]) for case in range(len(parts[0]))]


def _chain(word, rows):
    on, ended, whole, cost = 1, 0, 1, 0
    for yes, no, own_whole, own_cost in rows:
        cost = cost * own_whole + on * own_cost
        ended = ended * own_whole + on * (no if word == "all" else yes)
        on = on * (yes if word == "all" else no)
        whole = whole * own_whole
    return (on, ended, whole, cost) if word == "all" else (ended, on, whole, cost)
