import random
import unittest
from fractions import Fraction
from functools import cache
from itertools import product

from plainstore.choosing import (
    accepts_bound, chosen, closed, first_knowing, is_plan, least_mean, least_plan, let_tests, plan_mean, sure_value,
    told_bound, unlike_tests,
)
from plainstore.errors import NoCondition, NoCosts, NoGuard, NoKey, NoMoment, NoPast, NoPlan, NoShares
from plainstore.pasts import Past
from plainstore.plans import cheapest, meaning
from tests.arranged import asked_by, count_tests, lacking, some_costs, told
from tests.kinds import Odd, Yes, odd_values, raised
from tests.reckon import some_deeds
from tests.somes import some_condition, some_guarded
from tests.test_pictures import tests_in
from tests.test_plans import meant
from tests.plainly import state_at

ROW = ("row",)
HAS = ("has", "a")
EQ = ("eq", "a", 1)
LESS = ("less", "b", 5)
HALF = (1, 2)
GUARDED = ("all", (EQ, HAS, ROW, EQ))
FEW = ("all", (HAS, ROW))
ALWAYS = ("any", (ROW, ("not", ROW)))
WORDS = {True: "yes", False: "no"}


class Game:
    """The plain rules of choosing, for a condition."""

    def __init__(self, condition):
        self.condition = condition
        self.standing = tests_in(condition)
        self.tests = sorted(set(self.standing), key=self.standing.index)
        self.first = (None,) * len(self.tests)
        self.sure, self.lets, self.behind = cache(self.sure), cache(self.lets), cache(self.behind)

    def close(self, knowing):
        known = dict(zip(self.tests, knowing))
        for test in self.tests:
            if test[0] in ("eq", "less") and (known[ROW] is False or known[("has", test[1])] is False):
                known[test] = False
        return tuple(known[test] for test in self.tests)

    def sure(self, knowing):
        found = set()
        for filled in product(*[(True, False) if known is None else (known,) for known in knowing]):
            known = dict(zip(self.tests, filled))
            found.add(asked_by(self.condition, [known[test] for test in self.standing])[0])
        return WORDS[found.pop()] if len(found) == 1 else None

    def lets(self, knowing):
        if self.close(knowing) != knowing or self.sure(knowing):
            return []
        known = dict(zip(self.tests, knowing))
        return [number for number, test in enumerate(self.tests) if known[test] is None and
                (test[0] in ("row", "has") or known[ROW] and known[("has", test[1])])]

    def behind(self, knowing, number):
        ways = [knowing[:number] + (truth,) + knowing[number + 1:] for truth in (True, False)]
        return [self.close(way) for way in ways]

    def plans(self, knowing, costs, shares):
        """All choosing plans from a knowing on, as pairs (dict, mean)."""
        if self.sure(knowing):
            return [({}, Fraction(0))]
        found = []
        for number in self.lets(knowing):
            share = Fraction(*shares[number])
            with_yes, with_no = [self.plans(way, costs, shares) for way in self.behind(knowing, number)]
            for (one, one_mean), (other, other_mean) in product(with_yes, with_no):
                whole = Fraction(*costs[number]) + share * one_mean + (1 - share) * other_mean
                found.append(({knowing: number, **one, **other}, whole))
        return found

    def told_plan(self, knowing, costs, shares):
        """The told plan from a knowing on, and its mean: of the let tests of least mean the first one."""
        if self.sure(knowing):
            return {}, Fraction(0)
        best = None
        for number in self.lets(knowing):
            share = Fraction(*shares[number])
            (one, one_mean), (other, other_mean) = [self.told_plan(way, costs, shares)
                                                    for way in self.behind(knowing, number)]
            whole = Fraction(*costs[number]) + share * one_mean + (1 - share) * other_mean
            if best is None or whole < best[1]:
                best = ({knowing: number, **one, **other}, whole)
        return best

    def reached(self):
        found, waiting = [], [self.first]
        while waiting:
            knowing = waiting.pop()
            if knowing not in found:
                found.append(knowing)
                waiting += [way for number in self.lets(knowing) for way in self.behind(knowing, number)]
        return found

    def is_bound(self, costs, shares, value):
        if self.first not in value:
            return False
        for knowing, bound in value.items():
            if self.sure(knowing):
                if Fraction(*bound) > 0:
                    return False
                continue
            for number in self.lets(knowing):
                ways, share = self.behind(knowing, number), Fraction(*shares[number])
                if any(way not in value for way in ways):
                    return False
                one, other = [Fraction(*value[way]) for way in ways]
                if Fraction(*bound) > Fraction(*costs[number]) + share * one + (1 - share) * other:
                    return False
        return True


def can_choose(condition):
    tests = tests_in(condition)
    return all(test[0] in ("row", "has") or {ROW, ("has", test[1])} <= set(tests) for test in tests)


def some_games(seed, count, most, most_unlike):
    rng = random.Random(seed)
    while count:
        condition = rng.choice((some_condition, some_guarded))(rng, most)
        if can_choose(condition) and len(set(tests_in(condition))) <= most_unlike:
            count -= 1
            yield rng, Game(condition)


class Knowings(unittest.TestCase):
    def test_unlike_tests(self):
        self.assertEqual(unlike_tests(GUARDED), [EQ, HAS, ROW])
        self.assertEqual(unlike_tests(condition=EQ), [EQ])
        self.assertEqual(first_knowing(GUARDED), (None, None, None))
        self.assertEqual(first_knowing(condition=ROW), (None,))
        rng = random.Random(140)
        for _ in range(100):
            condition = some_condition(rng)
            tests = tests_in(condition)
            self.assertEqual(unlike_tests(condition), sorted(set(tests), key=tests.index))
        unlike_tests(GUARDED).clear()
        self.assertEqual(len(unlike_tests(GUARDED)), 3)

    def test_each_knowing(self):
        for _, game in some_games(141, 60, 3, 5):
            self.assertEqual(first_knowing(game.condition), game.first)
            for knowing in product((None, True, False), repeat=len(game.tests)):
                self.assertEqual(closed(game.condition, knowing), game.close(knowing))
                self.assertEqual(sure_value(game.condition, knowing), game.sure(knowing))
                self.assertEqual(let_tests(game.condition, knowing), game.lets(knowing))

    def test_told(self):
        self.assertEqual(closed(GUARDED, (True, False, None)), (False, False, None))
        self.assertEqual(closed(GUARDED, (None, None, False)), (False, None, False))
        self.assertEqual(closed(GUARDED, (True, None, None)), (True, None, None))
        self.assertEqual(closed(knowing=(None, True, True), condition=GUARDED), (None, True, True))
        two = ("all", (HAS, ("has", "b"), ROW, EQ, LESS))
        self.assertEqual(closed(two, (None, False, None, True, None)), (None, False, None, True, False))
        self.assertEqual(let_tests(two, (True, None, True, None, None)), [1, 3])
        self.assertEqual(let_tests(GUARDED, (None, None, None)), [1, 2])
        self.assertEqual(let_tests(GUARDED, (None, True, None)), [2])
        self.assertEqual(let_tests(GUARDED, (None, True, True)), [0])
        self.assertEqual(let_tests(knowing=(None, False, None), condition=GUARDED), [])
        self.assertEqual(let_tests(("any", (FEW, ("has", "b"))), (True, None, True)), [])
        either = ("any", (("all", (HAS, ROW, EQ)), ("has", "b")))
        self.assertEqual([let_tests(either, (False, None, known, None)) for known in (None, True, False)],
                         [[], [], [1, 3]])
        self.assertIsNone(sure_value(either, (False, None, True, None)))
        self.assertEqual(sure_value(ALWAYS, (None,)), "yes")
        self.assertEqual(let_tests(ALWAYS, (None,)), [])
        # What is not closed has a sure value all the same: nothing is made False for it.
        self.assertEqual(sure_value(knowing=(None, None, False), condition=("any", GUARDED[1])), None)
        self.assertEqual(sure_value(("any", GUARDED[1]), (True, False, False)), "yes")
        eight = ("any", tuple(("all", (("has", name), ROW, ("eq", name, 1))) for name in ("a", "b")) + (HAS,))
        self.assertIsNone(sure_value(eight, first_knowing(eight)))


class Plans(unittest.TestCase):
    def test_beside_all_choosing_plans(self):
        many = 0
        for rng, game in some_games(142, 90, 4, 4):
            costs, shares = some_costs(rng, len(game.tests))
            plans = game.plans(game.first, costs, shares)
            least = min(own for _, own in plans)
            self.assertEqual(least_mean(game.condition, costs, tuple(shares)), told(least))
            plan, own = game.told_plan(game.first, costs, shares)
            self.assertEqual((least_plan(game.condition, tuple(costs), shares), own), (plan, least))
            many += len(plans) > 5
            for plan, own in rng.sample(plans, min(4, len(plans))):
                self.assertIs(is_plan(game.condition, plan), True)
                self.assertEqual(plan_mean(game.condition, costs, shares, plan), told(own))
                self.check_spoiled(rng, game, plan)
        self.assertGreater(many, 20)

    def check_spoiled(self, rng, game, plan):
        for knowing in plan:
            left = {own: plan[own] for own in plan if own != knowing}
            self.assertIs(is_plan(game.condition, left), False)
            for number in list(range(-1, len(game.tests) + 1)) + [None, True, False, 1.0, "0"]:
                other = {**plan, knowing: number}
                number_is_let = number.__class__ is int and number in game.lets(knowing)
                if not number_is_let:
                    self.assertIs(is_plan(game.condition, other), False)
        more = {knowing: game.lets(knowing)[0] for knowing in game.reached() if game.lets(knowing)}
        self.assertIs(is_plan(game.condition, {**more, **plan}), True)
        for knowing in product((None, True, False), repeat=len(game.tests)):
            if not game.lets(knowing):
                self.assertIs(is_plan(game.condition, {**more, knowing: rng.randrange(len(game.tests))}), False)

    def test_bigger_ones(self):
        for rng, game in some_games(143, 12, 6, 7):
            costs, shares = some_costs(rng, len(game.tests))
            if len(game.tests) > 5 and all(test[0] in ("row", "has") for test in game.tests):
                continue
            plan, own = game.told_plan(game.first, costs, shares)
            self.assertEqual(least_plan(game.condition, costs, shares), plan)
            self.assertEqual(least_mean(game.condition, costs, shares), told(own))
            self.assertEqual(plan_mean(game.condition, costs, shares, plan), told(own))

    def test_told(self):
        costs, shares = [(4, 1), (1, 1)], [HALF, (1, 3)]
        self.assertEqual(least_plan(FEW, costs, shares), {(None, None): 1, (None, True): 0})
        self.assertEqual(least_mean(FEW, costs, shares), (7, 3))
        self.assertEqual(plan_mean(FEW, costs, shares, {(None, None): 0, (True, None): 1}), (9, 2))
        self.assertEqual(plan_mean(plan={(None, None): 0, (True, None): 1}, shares=shares, costs=costs,
                                   condition=FEW), (9, 2))
        self.assertEqual(least_plan(FEW, [(1, 1)] * 2, [HALF] * 2), {(None, None): 0, (True, None): 1})
        self.assertEqual((least_mean(ALWAYS, [(1, 1)], [HALF]), least_plan(ALWAYS, [(1, 1)], [HALF])), ((0, 1), {}))
        self.assertIs(is_plan(ALWAYS, {}), True)
        self.assertIs(is_plan(ALWAYS, {(None,): 0}), False)
        self.assertIs(is_plan(value={(None,): 0}, condition=ROW), True)
        self.assertIs(is_plan(ROW, {}), False)
        plan = least_plan(shares=shares, costs=costs, condition=FEW)
        plan.clear()
        self.assertEqual(len(least_plan(FEW, costs, shares)), 2)

    def test_no_dearer_than_arrangements(self):
        rng = random.Random(144)
        for _ in range(80):
            condition = some_guarded(rng)
            tests = tests_in(condition)
            if not lacking(condition) and len(set(tests)) == len(tests):
                costs, shares = some_costs(rng, count_tests(condition))
                least = Fraction(*least_mean(condition, costs, shares))
                self.assertLessEqual(least, Fraction(*cheapest(condition, costs, shares)[1]))

    def test_any_value_is_a_plan(self):
        plan = {(None, None): 0, (True, None): 1}
        self.assertIs(is_plan(FEW, plan), True)
        for value in odd_values() + [list(plan), [plan], {**plan, (1, None): 1}, {(0, None): 1}]:
            if repr(value) != "{(None, None): 0, (True, None): 1}":
                self.assertIs(is_plan(FEW, value), False)
        for knowing in (None, (), (None,), (None, None, None), (None, 1), (None, "yes"), "ab", 3, Yes(), (Yes(), None)):
            self.assertIs(is_plan(FEW, {**plan, knowing: 0}), False)
        for number in odd_values() + [0, 2]:
            self.assertIs(is_plan(FEW, {**plan, (True, None): number}), False)
        self.assertIs(is_plan(FEW, {(None, None): 0, (1, None): 1}), False)
        self.assertIs(is_plan(FEW, {(None, None): False, (True, None): True}), False)

    def test_chosen(self):
        words = {"yes": 0, "no": 0}
        for rng, game in some_games(145, 150, 4, 6):
            costs, shares = some_costs(rng, len(game.tests))
            plan = least_plan(game.condition, costs, shares)
            for _ in range(4):
                deeds, key, t = some_deeds(rng, rng.choice((3, 6, 9)), 9, 2), rng.randrange(2), rng.choice((4, 9, 999))
                state = state_at(deeds, t)
                knowing, numbers = game.first, []
                while not game.sure(knowing):
                    numbers.append(plan[knowing])
                    is_so = meant(game.tests[plan[knowing]], state, key)
                    knowing = game.behind(knowing, plan[knowing])[0 if is_so else 1]
                expected = (game.sure(knowing), numbers)
                self.assertEqual(chosen(game.condition, plan, Past(deeds), key, t), expected)
                self.assertEqual(expected[0], "yes" if meant(game.condition, state, key) else "no")
                if not lacking(game.condition):
                    self.assertEqual(meaning(game.condition, Past(deeds), key, t), expected[0])
                words[expected[0]] += 1
        self.assertGreater(min(words.values()), 40)
        past = Past([(1, "add", "a", 1), (2, "put", 3, ())])
        plan = least_plan(GUARDED, [(1, 1)] * 3, [HALF] * 3)
        self.assertEqual(chosen(GUARDED, plan, past, 3, 2), ("yes", [1, 2, 0]))
        self.assertEqual(chosen(t=2, key=0, past=past, plan=plan, condition=GUARDED), ("no", [1, 2]))
        self.assertEqual(chosen(ALWAYS, {}, past, 0, 0), ("yes", []))


class Bounds(unittest.TestCase):
    def test_told_bounds(self):
        for rng, game in some_games(146, 40, 4, 5):
            costs, shares = some_costs(rng, len(game.tests))
            bound = told_bound(game.condition, costs, shares)
            expected = {knowing: told(game.told_plan(knowing, costs, shares)[1]) for knowing in game.reached()}
            self.assertEqual(bound, expected)
            self.assertEqual(bound[game.first], least_mean(game.condition, costs, shares))
            self.assertIs(accepts_bound(game.condition, costs, shares, bound), True)
            for knowing in list(bound):
                self.check(game, costs, shares, {own: bound[own] for own in bound if own != knowing})
                a, b = bound[knowing]
                for other in (told(Fraction(a, b) + Fraction(1, 10 ** 9)), told(Fraction(a, b) - 1), (0, 1), (-7, 3)):
                    self.check(game, costs, shares, {**bound, knowing: other})
            lower = {knowing: told(Fraction(*bound[knowing]) - Fraction(1, 3)) for knowing in bound}
            self.check(game, costs, shares, lower)
            every = list(product((None, True, False), repeat=len(game.tests)))
            for knowing in rng.sample(every, min(len(every), 40)):
                if game.close(knowing) == knowing and knowing not in bound:
                    self.check(game, costs, shares, {**bound, knowing: rng.choice(((0, 1), (-50, 1), (1, 1), (90, 1)))})

    def check(self, game, costs, shares, value):
        self.assertIs(accepts_bound(game.condition, costs, shares, value), game.is_bound(costs, shares, value))

    def test_any_value(self):
        costs, shares = [(4, 1), (1, 1), (1, 1)], [HALF] * 3
        bound = told_bound(GUARDED, costs, shares)
        self.assertIs(accepts_bound(value=bound, shares=shares, costs=costs, condition=GUARDED), True)
        for value in odd_values() + [list(bound), list(bound.items()), {}]:
            self.assertIs(accepts_bound(GUARDED, costs, shares, value), False)
        sure = (False, False, None)
        for fraction in odd_values() + [(0, 2), (2, 4), (0, -1), (0, 0), (False, 1), (0, True), [0, 1], (0, 1, 1),
                                        (Odd(), 1),
                                        (-2, 4), (1, 10 ** 40)]:
            self.assertIs(accepts_bound(GUARDED, costs, shares, {**bound, sure: fraction}), False)
        for fraction in ((-1, 2), (-10 ** 40, 1), (-1, 10 ** 40)):
            self.assertIs(accepts_bound(GUARDED, costs, shares, {**bound, sure: fraction}),
                          Game(GUARDED).is_bound(costs, shares, {**bound, sure: fraction}))
        for knowing in [None, (), (None,) * 2, (True, False, None), (None, 1, None), Yes(), (Yes(), None, None), "abc",
                        (None, None, False), (0, False, None), (False, 0, None)]:
            # The first key stays where another one is equal to it, so that the odd one is put in first.
            items = [(knowing, (0, 1))] + list(bound.items())
            self.assertIs(accepts_bound(GUARDED, costs, shares, dict(items)), False)
        told_bound(GUARDED, costs, shares).clear()
        self.assertEqual(told_bound(shares=shares, costs=costs, condition=GUARDED), bound)

    def test_no_plan_is_below(self):
        for rng, game in some_games(147, 30, 3, 4):
            costs, shares = some_costs(rng, len(game.tests))
            first = Fraction(*told_bound(game.condition, costs, shares)[game.first])
            self.assertTrue(all(own >= first for _, own in game.plans(game.first, costs, shares)))


class Refusals(unittest.TestCase):
    def test_no_condition(self):
        for value in odd_values() + [("all", (ROW, ROW))]:
            for call in (unlike_tests, first_knowing):
                raised(self, NoCondition, value, call, value)
            for call in (closed, sure_value, let_tests, is_plan):
                raised(self, NoCondition, value, call, value, None)
            for call in (least_mean, least_plan, told_bound):
                raised(self, NoCondition, value, call, value, None, None)
            for call in (plan_mean, accepts_bound):
                raised(self, NoCondition, value, call, value, None, None, None)
            raised(self, NoCondition, value, chosen, value, None, Past(), None, None)

    def test_no_guard(self):
        for condition, path in (
            (EQ, ()), (("not", ("any", (ROW, EQ))), (0, 1)), (("any", (HAS, EQ, LESS)), (1,)),
            (("any", (HAS, EQ, LESS, ROW)), (2,)), (("all", (LESS, EQ, ROW, HAS)), (0,)),
        ):
            for call in (first_knowing,):
                raised(self, NoGuard, path, call, condition)
            for call in (closed, sure_value, let_tests, is_plan):
                raised(self, NoGuard, path, call, condition, None)
            for call in (least_mean, least_plan, told_bound):
                raised(self, NoGuard, path, call, condition, None, None)
            for call in (plan_mean, accepts_bound):
                raised(self, NoGuard, path, call, condition, None, None, None)
            raised(self, NoGuard, path, chosen, condition, None, Past(), None, None)
            self.assertEqual(len(unlike_tests(condition)), len(tests_in(condition)))
        self.assertEqual(first_knowing(("any", (("not", EQ), ("all", (HAS, ROW))))), (None, None, None))

    def test_no_plan(self):
        wrong = odd_values() + [(None,), (None, None, None), (None, 1), (0, None), [None, None], (None, "no"),
                                (Yes(), None)]
        for value in wrong:
            for call in (closed, sure_value, let_tests):
                raised(self, NoPlan, value, call, FEW, value)
            raised(self, NoPlan, value, plan_mean, FEW, [(1, 1)] * 2, [HALF] * 2, value)
            raised(self, NoPlan, value, chosen, FEW, value, Past(), None, None)
        for plan in ({(None, None): 0}, {(None, None): 0, (True, None): 0}, {(True, None): 1}):
            raised(self, NoPlan, plan, plan_mean, FEW, [(1, 1)] * 2, [HALF] * 2, plan)
            raised(self, NoPlan, plan, chosen, FEW, plan, Past(), None, None)

    def test_costs_and_shares(self):
        wrong = odd_values() + [[HALF], [HALF] * 3, [HALF, (0, 1)], [HALF, (2, 4)], [HALF, (1, 21)], [HALF, (True, 2)]]
        for call in (least_mean, least_plan, told_bound, plan_mean, accepts_bound):
            more = [None] if call in (plan_mean, accepts_bound) else []
            for value in wrong:
                raised(self, NoCosts, value, call, FEW, value, None, *more)
                raised(self, NoShares, value, call, FEW, [(1, 1)] * 2, value, *more)
            raised(self, NoShares, [(1, 1)] * 2, call, FEW, [(1, 1)] * 2, [(1, 1)] * 2, *more)
            # One for each unlike test, however often it stands.
            raised(self, NoCosts, [HALF] * 4, call, GUARDED, [HALF] * 4, None, *more)

    def test_chosen(self):
        plan = {(None, None): 0, (True, None): 1}
        for value in odd_values():
            raised(self, NoPast, value, chosen, None, None, value, None, None)
        for value in odd_values() + [10]:
            raised(self, NoKey, value, chosen, FEW, plan, Past(), value, None)
        for value in odd_values() + [1000]:
            raised(self, NoMoment, value, chosen, FEW, plan, Past(), 0, value)


if __name__ == "__main__":
    unittest.main()
