"""Choosing plans: which test is asked next hangs on what the tests asked so far told."""

from plainstore.arguments import check_key, check_past, check_time
from plainstore.conditions import answers_at, check_condition, paths, said
from plainstore.errors import NoGuard, NoPlan
from plainstore.limits import is_number
from plainstore.plans import check_costs
from plainstore.ratios import NOUGHT, added, is_less, is_ratio, rest_of, times
from plainstore.trees import condition_of, run_tree, tests_within, tree_of


def unlike_tests(condition):
    """The unlike tests of a condition, in the order in which they first stand."""
    check_condition(condition)
    return _unlike(tests_within(condition))


def first_knowing(condition):
    """The knowing ahead of all questions."""
    return _chooser(condition).first()


def closed(condition, knowing):
    """The knowing, closed: without a row, or a column, what asks for its values is so no longer."""
    chooser = _chooser(condition)
    _check_knowing(chooser, knowing)
    return chooser.close(knowing)


def sure_value(condition, knowing):
    """ "yes" or "no", if the condition is so whatever is not known, otherwise None."""
    chooser = _chooser(condition)
    _check_knowing(chooser, knowing)
    return chooser.sure(knowing)


def let_tests(condition, knowing):
    """The numbers of the tests that may be asked next."""
    chooser = _chooser(condition)
    _check_knowing(chooser, knowing)
    return chooser.lets(knowing)


def least_mean(condition, costs, shares):
    """The least mean cost of a choosing plan."""
    chooser = _chooser(condition)
    check_costs(costs, shares, len(chooser.tests))
    return _least_means(chooser, costs, shares)[chooser.first()]


def least_plan(condition, costs, shares):
    """The choosing plan of least mean, at each knowing the first test of least mean."""
    chooser = _chooser(condition)
    check_costs(costs, shares, len(chooser.tests))
    means = _least_means(chooser, costs, shares)
    plan = {}
    waiting = [chooser.first()]
    while waiting:
        knowing = waiting.pop()
        if chooser.sure(knowing) is None and knowing not in plan:
            ways = [(number, _mean_by(chooser, costs, shares, means, knowing, number))
                    for number in chooser.lets(knowing)]
            plan[knowing] = [number for number, own_mean in ways if own_mean == means[knowing]][0]
            waiting.extend(chooser.behind(knowing, plan[knowing]))
    return plan


def plan_mean(condition, costs, shares, plan):
    """The mean cost of a choosing plan."""
    chooser = _chooser(condition)
    check_costs(costs, shares, len(chooser.tests))
    _check_plan(chooser, plan)
    return _plan_mean(chooser, costs, shares, plan, chooser.first())


def is_plan(condition, value):
    """Whether any value is a choosing plan of the condition."""
    return _is_plan(_chooser(condition), value)


def chosen(condition, plan, past, key, t):
    """The pair of the outcome and of the list of the numbers of the tests that the plan asks."""
    check_past(past)
    chooser = _chooser(condition)
    _check_plan(chooser, plan)
    check_key(key)
    check_time(t)
    answers = answers_at(chooser.tests, past.deeds(), key, t)
    knowing = chooser.first()
    numbers = []
    while chooser.sure(knowing) is None:
        number = plan[knowing]
        numbers.append(number)
        with_yes, with_no = chooser.behind(knowing, number)
        knowing = with_yes if answers[number] == "yes" else with_no
    return (chooser.sure(knowing), numbers)


def accepts_bound(condition, costs, shares, value):
    """Whether any value is a bound: no choosing plan has a mean below its fraction at the first knowing."""
    chooser = _chooser(condition)
    check_costs(costs, shares, len(chooser.tests))
    if not isinstance(value, dict):
        return False
    for knowing in value:
        if not chooser.is_knowing(knowing) or chooser.close(knowing) != knowing or not is_ratio(value[knowing]):
            return False
    if chooser.first() not in value:
        return False
    return all([_is_below(chooser, costs, shares, value, knowing) for knowing in value])


def told_bound(condition, costs, shares):
    """The least means of all knowings to which any answers to let tests lead."""
    chooser = _chooser(condition)
    check_costs(costs, shares, len(chooser.tests))
    return _least_means(chooser, costs, shares)


class Chooser:
    """The unlike tests of a condition, and what follows from knowing some of them."""

    def __init__(self, condition):
        tests = tests_within(condition)
        self.tests = _unlike(tests)
        self._tree = condition_of(tree_of(condition), [self.tests.index(test) for test in tests])
        self._needed = [_needed_by(self.tests, test) for test in self.tests]
        self._sures = {}

    def first(self):
        """The knowing ahead of all questions."""
        return (None,) * len(self.tests)

    def is_knowing(self, value):
        """Whether any value is a knowing."""
        if not isinstance(value, tuple) or len(value) != len(self.tests):
            return False
        return all([known is None or known is True or known is False for known in value])

    def close(self, knowing):
        """The knowing, closed."""
        told = []
        for known, needed in zip(knowing, self._needed):
            is_lacking = any([knowing[number] is False for number in needed])
            told.append(False if is_lacking else known)
        return tuple(told)

    def sure(self, knowing):
        """What the condition is for all ways to fill the knowing, None if it is not always the same."""
        if knowing not in self._sures:
            self._sures[knowing] = self._reckoned(knowing)
        return self._sures[knowing]

    def lets(self, knowing):
        """The numbers of the tests that are let."""
        if self.close(knowing) != knowing or self.sure(knowing) is not None:
            return []
        told = []
        for number, known in enumerate(knowing):
            if known is None and all([knowing[other] is True for other in self._needed[number]]):
                told.append(number)
        return told

    def behind(self, knowing, number):
        """The two closed knowings that come of answering a test by True, and by False."""
        return (self.close(_put_in(knowing, number, True)), self.close(_put_in(knowing, number, False)))

    def _reckoned(self, knowing):
        if None not in knowing:
            told, _ = run_tree(self._tree, [said(known) for known in knowing])
            return told
        number = knowing.index(None)
        told = self.sure(_put_in(knowing, number, True))
        return told if told == self.sure(_put_in(knowing, number, False)) else None


def _unlike(tests):
    return list({test: True for test in tests})


def _needed_by(tests, test):
    """The numbers of the row and the has without which a test is not let."""
    if test[0] not in ("eq", "less"):
        return []
    return [tests.index(("row",)), tests.index(("has", test[1]))]


def _put_in(knowing, number, truth):
    return knowing[:number] + (truth,) + knowing[number + 1:]


def _chooser(condition):
    """What leads the choosing for a condition; refuses one that cannot be chosen for."""
    check_condition(condition)
    tests = tests_within(condition)
    for path, part in paths(condition):
        if part[0] in ("eq", "less") and (("has", part[1]) not in tests or ("row",) not in tests):
            raise NoGuard(path)
    return Chooser(condition)


def _check_knowing(chooser, knowing):
    if not chooser.is_knowing(knowing):
        raise NoPlan(knowing)


def _check_plan(chooser, plan):
    if not _is_plan(chooser, plan):
        raise NoPlan(plan)


def _is_plan(chooser, value):
    if not isinstance(value, dict) or not all([chooser.is_knowing(knowing) for knowing in value]):
        return False
    if chooser.sure(chooser.first()) is None and chooser.first() not in value:
        return False
    for knowing in value:
        # What is closed without a sure value has let tests; any other knowing has none.
        if not is_number(value[knowing]) or value[knowing] not in chooser.lets(knowing):
            return False
        for behind in chooser.behind(knowing, value[knowing]):
            if chooser.sure(behind) is None and behind not in value:
                return False
    return True


def _weighed(costs, shares, number, with_yes, with_no):
    """The cost of a test and the means behind its answers, weighed by its share."""
    behind = added(times(shares[number], with_yes), times(rest_of(shares[number]), with_no))
    return added(costs[number], behind)


def _mean_by(chooser, costs, shares, means, knowing, number):
    with_yes, with_no = chooser.behind(knowing, number)
    return _weighed(costs, shares, number, means[with_yes], means[with_no])


def _least_means(chooser, costs, shares):
    means = {}
    _reckon_least(chooser, costs, shares, means, chooser.first())
    return means


def _reckon_least(chooser, costs, shares, means, knowing):
    """Put the least mean of a knowing, and of all to which it leads, into means."""
    if knowing in means:
        return
    least = NOUGHT if chooser.sure(knowing) is not None else None
    for number in chooser.lets(knowing):
        for behind in chooser.behind(knowing, number):
            _reckon_least(chooser, costs, shares, means, behind)
        own_mean = _mean_by(chooser, costs, shares, means, knowing, number)
        if least is None or is_less(own_mean, least):
            least = own_mean
    means[knowing] = least


def _plan_mean(chooser, costs, shares, plan, knowing):
    if chooser.sure(knowing) is not None:
        return NOUGHT
    number = plan[knowing]
    with_yes, with_no = [_plan_mean(chooser, costs, shares, plan, behind) for behind in chooser.behind(knowing, number)]
    return _weighed(costs, shares, number, with_yes, with_no)


def _is_below(chooser, costs, shares, bound, knowing):
    """Whether the fraction of a knowing is no more than is let by those behind it."""
    if chooser.sure(knowing) is not None:
        return not is_less(NOUGHT, bound[knowing])
    for number in chooser.lets(knowing):
        if not all([behind in bound for behind in chooser.behind(knowing, number)]):
            return False
        if is_less(_mean_by(chooser, costs, shares, bound, knowing, number), bound[knowing]):
            return False
    return True
