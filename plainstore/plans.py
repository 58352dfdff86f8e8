"""Plans: arrangements of a condition that never fail, and the cheapest of them."""

from plainstore.arguments import check_key, check_past, check_time
from plainstore.conditions import answers_at, check_condition, paths
from plainstore.errors import NoCosts, NoGuard, NoShares
from plainstore.ratios import NOUGHT, WHOLE, added, is_cost, is_less, is_share, rest_of, times
from plainstore.trees import condition_of, parts_of, run_tree, tests_within, tree_of


def guards(condition):
    """For each eq and less, as they stand, (path, path of its has, path of its row)."""
    check_condition(condition)
    told = []
    for path, part in paths(condition):
        if part[0] in ("eq", "less"):
            has_path = _guard_of(condition, path, ("has", part[1]))
            row_path = _guard_of(condition, path, ("row",))
            if has_path is None or row_path is None:
                raise NoGuard(path)
            told.append((path, has_path, row_path))
    return told


def is_guarded(condition):
    """Whether each guard stands ahead of the part that has its test within."""
    for path, has_path, row_path in guards(condition):
        for guard in (has_path, row_path):
            if guard[-1] > path[len(guard) - 1]:
                return False
    return True


def meaning(condition, past, key, t):
    """What a condition that can be guarded means: "yes" or "no", all its parts looked at."""
    check_past(past)
    guards(condition)
    check_key(key)
    check_time(t)
    answers = answers_at(tests_within(condition), past.deeds(), key, t)
    told, _ = run_tree(tree_of(condition), ["no" if answer == "fault" else answer for answer in answers])
    return told


def mean(condition, costs, shares):
    """The mean cost of the condition as it stands."""
    check_condition(condition)
    check_costs(costs, shares, len(tests_within(condition)))
    own_mean, _ = _mean_of(tree_of(condition), costs, shares)
    return own_mean


def cheapest(condition, costs, shares):
    """The pair of the told plan, the guarded arrangement of least mean cost, and of its mean."""
    check_condition(condition)
    tests = tests_within(condition)
    check_costs(costs, shares, len(tests))
    tree, least, _ = _best_of(tree_of(condition), (), places_ahead(condition), costs, shares)
    return (condition_of(tree, tests), least)


def check_costs(costs, shares, count):
    """Refuse what are no costs of so many tests, then what are no shares of them."""
    if not isinstance(costs, (list, tuple)) or len(costs) != count or not all([is_cost(cost) for cost in costs]):
        raise NoCosts(costs)
    if not isinstance(shares, (list, tuple)) or len(shares) != count or not all([is_share(own) for own in shares]):
        raise NoShares(shares)


def places_ahead(condition):
    """By paths of alls the pairs of places of which the first one guards something within the second one."""
    told = {}
    for path, has_path, row_path in guards(condition):
        for guard in (has_path, row_path):
            node = guard[:-1]
            told[node] = told.get(node, []) + [(guard[-1], path[len(node)])]
    return told


def orders(count, ahead):
    """All orders of so many places, ascending, in which of each pair the first one stands ahead."""
    told = [()]
    for _ in range(count):
        told = [order + (place,) for order in told for place in range(count) if _may_come(order, place, ahead)]
    return told


def _may_come(order, place, ahead):
    return place not in order and all([one in order for one, other in ahead if other == place])


def _guard_of(condition, path, guard):
    """The path of this guard in the innermost all around a path that has it among its parts, or None."""
    found = None
    part = condition
    for depth, place in enumerate(path):
        parts = parts_of(part)
        if part[0] == "all" and guard in parts:
            found = path[:depth] + (parts.index(guard),)
        part = parts[place]
    return found


def _joined(word, rows):
    """The mean cost and the share of an all or an any whose parts have these."""
    whole_mean = NOUGHT
    reached = WHOLE
    for own_mean, share in rows:
        whole_mean = added(whole_mean, times(own_mean, reached))
        reached = times(reached, share if word == "all" else rest_of(share))
    return whole_mean, reached if word == "all" else rest_of(reached)


def _mean_of(tree, costs, shares):
    """The mean cost and the share of a tree."""
    if isinstance(tree, int):
        return costs[tree], shares[tree]
    if tree[0] == "not":
        own_mean, share = _mean_of(tree[1], costs, shares)
        return own_mean, rest_of(share)
    return _joined(tree[0], [_mean_of(part, costs, shares) for part in tree[1]])


def _best_of(tree, path, ahead, costs, shares):
    """The guarded arrangement of least mean of the part at a path, with its mean and its share.

    The share hangs on no order, and a lesser mean of a part makes that of the whole less, so each node stands for
    itself; of several orders the first one is taken.
    """
    if isinstance(tree, int):
        return tree, costs[tree], shares[tree]
    if tree[0] == "not":
        part, own_mean, share = _best_of(tree[1], path + (0,), ahead, costs, shares)
        return ("not", part), own_mean, rest_of(share)
    rows = [_best_of(part, path + (place,), ahead, costs, shares) for place, part in enumerate(tree[1])]
    best = None
    for order in orders(len(rows), ahead.get(path, [])):
        own_mean, share = _joined(tree[0], [rows[place][1:] for place in order])
        if best is None or is_less(own_mean, best[1]):
            best = ((tree[0], tuple([rows[place][0] for place in order])), own_mean, share)
    return best
