import random
import unittest
from fractions import Fraction
from itertools import product

from plainstore.errors import NoCondition, NoCosts, NoCount, NoGuard, NoMoment, NoPast, NoShares
from plainstore.overkeys import asked_over, cheapest_over, mean_over, run_over
from plainstore.pasts import Past
from plainstore.plans import cheapest, mean
from tests.arranged import arrangements, asked_by, chance_of, count_tests, is_led, lacking, some_costs, told
from tests.kinds import odd_values, raised
from tests.reckon import some_deeds
from tests.somes import some_condition, some_guarded
from tests.test_conditions import plain_asked
from tests.test_pictures import tests_in

ROW = ("row",)
HAS = ("has", "a")
EQ = ("eq", "a", 1)
HALF = (1, 2)
GUARDED = ("all", (HAS, ROW, EQ))


def firsts_of(condition):
    """By names the number of the first has."""
    told_firsts = {}
    for number, test in enumerate(tests_in(condition)):
        if test[0] == "has":
            told_firsts.setdefault(test[1], number)
    return told_firsts


def sets_of(firsts, shares):
    """All sets of names that have a has, with their chances."""
    for truths in product((False, True), repeat=len(firsts)):
        chance = chance_of(truths, [shares[number] for number in firsts.values()])
        yield {name for name, truth in zip(firsts, truths) if truth}, chance


def runs_of(condition, costs, shares, some):
    """All runs by a set of names with columns: (chance, cost but for has, names whose has is asked)."""
    tests = tests_in(condition)
    free = [number for number, test in enumerate(tests) if test[0] != "has"]
    for truths in product((False, True), repeat=len(free)):
        answers = {number: test[1] in some for number, test in enumerate(tests) if test[0] == "has"}
        answers.update(zip(free, truths))
        numbers = asked_by(condition, answers)[1]
        cost = sum((Fraction(*costs[number]) for number in numbers if number in free), Fraction(0))
        names = {tests[number][1] for number in numbers if number not in free}
        yield chance_of(truths, [shares[number] for number in free]), cost, names


def plain_mean_over(condition, costs, shares, count, firsts=None, has=None):
    """The mean, set by set; firsts and has (the costs and shares of these) as the condition was given."""
    firsts = firsts_of(condition) if firsts is None else firsts
    has_costs, has_shares = (costs, shares) if has is None else has
    whole = Fraction(0)
    for some, chance in sets_of(firsts, has_shares):
        runs = list(runs_of(condition, costs, shares, some))
        own = count * sum(part * cost for part, cost, _ in runs)
        for name, number in firsts.items():
            asks = sum((part for part, _, names in runs if name in names), Fraction(0))
            own += Fraction(*has_costs[number]) * (1 - (1 - asks) ** count)
        whole += chance * own
    return whole


def all_runs_mean(condition, costs, shares, count):
    """The mean beside going through the runs of all keys together, the answers of has being kept."""
    firsts = firsts_of(condition)
    whole = Fraction(0)
    for some, chance in sets_of(firsts, shares):
        for runs in product(list(runs_of(condition, costs, shares, some)), repeat=count):
            part = chance
            cost, names = Fraction(0), set()
            for own, own_cost, own_names in runs:
                part *= own
                cost += own_cost
                names |= own_names
            whole += part * (cost + sum(Fraction(*costs[firsts[name]]) for name in names))
    return whole


def plain_cheapest_over(condition, costs, shares, count):
    firsts, best = firsts_of(condition), None
    for key, plan, numbers in arrangements(condition):
        if is_led(plan):
            own_costs, own_shares = [costs[n] for n in numbers], [shares[n] for n in numbers]
            own = plain_mean_over(plan, own_costs, own_shares, count, firsts, (costs, shares))
            if best is None or (own, key) < best[:2]:
                best = (own, key, plan)
    return (best[2], told(best[0]))


class Runs(unittest.TestCase):
    def test_beside_asking_keys_one_by_one(self):
        rng = random.Random(150)
        seen = set()
        for _ in range(500):
            condition = rng.choice((some_condition, some_guarded))(rng, 5)
            deeds = some_deeds(rng, rng.choice((3, 9, 14)), 14, 4)
            count, t = rng.choice((1, 2, 3, 10)), rng.choice((7, 14))
            tests, kept, pairs, outcome = tests_in(condition), set(), [], ("keys", [])
            for key in range(count):
                answers, word = plain_asked(condition, deeds, key, t)
                for number, _ in answers:
                    if tests[number] not in kept:
                        pairs.append((key, number))
                    if tests[number][0] == "has":
                        kept.add(tests[number])
                if word == "fault":
                    outcome = ("fault", key)
                    break
                outcome[1].extend([key] if word == "yes" else [])
            self.assertEqual(run_over(condition, Past(deeds), count, t), outcome)
            self.assertEqual(asked_over(condition, Past(deeds), count, t), pairs)
            seen.add((outcome[0], outcome[1] != 0))
        self.assertEqual(seen, {("keys", True), ("fault", False), ("fault", True)})

    def test_told(self):
        past = Past([(1, "add", "a", 1), (2, "put", 0, ()), (3, "put", 2, (("a", 5),)), (4, "put", 3, ()),
                     (9, "drop", "a")])
        self.assertEqual(run_over(GUARDED, past, 4, 8), ("keys", [0, 3]))
        self.assertEqual(run_over(GUARDED, past, 3, 8), ("keys", [0]))
        self.assertEqual(run_over(GUARDED, past, 10, 9), ("keys", []))
        self.assertEqual(asked_over(GUARDED, past, 3, 8), [(0, 0), (0, 1), (0, 2), (1, 1), (2, 1), (2, 2)])
        self.assertEqual(asked_over(GUARDED, past, 3, 9), [(0, 0)])
        self.assertEqual(run_over(EQ, past, 4, 8), ("fault", 1))
        self.assertEqual(asked_over(t=8, count=4, past=past, condition=EQ), [(0, 0), (1, 0)])
        self.assertEqual(run_over(t=9, count=1, past=past, condition=("any", (ROW, EQ))), ("keys", [0]))
        twice = ("all", (HAS, ("any", (HAS, ROW)), ROW))
        self.assertEqual(asked_over(twice, past, 2, 8), [(0, 0), (0, 3), (1, 3)])
        self.assertEqual(run_over(("any", (("not", ROW), EQ)), past, 10, 8), ("keys", [0, 1, 3, 4, 5, 6, 7, 8, 9]))
        self.assertEqual(asked_over(("any", (ROW, HAS, HAS)), past, 2, 0), [(0, 0), (0, 1), (1, 0)])
        told_keys = run_over(GUARDED, past, 4, 8)[1]
        told_keys.clear()
        self.assertEqual(run_over(GUARDED, past, 4, 8), ("keys", [0, 3]))


class Means(unittest.TestCase):
    def test_beside_all_sets_and_runs(self):
        rng = random.Random(151)
        for _ in range(150):
            condition = rng.choice((some_condition, some_guarded))(rng, 5)
            costs, shares = some_costs(rng, count_tests(condition))
            count = rng.choice((1, 2, 3, 10))
            expected = told(plain_mean_over(condition, costs, shares, count))
            self.assertEqual(mean_over(condition, costs, shares, count), expected)

    def test_beside_the_runs_of_all_keys_together(self):
        rng = random.Random(152)
        for _ in range(80):
            condition = rng.choice((some_condition, some_guarded))(rng, 4)
            costs, shares = some_costs(rng, count_tests(condition))
            free = sum(test[0] != "has" for test in tests_in(condition))
            count = rng.choice((1, 2, 3)) if free <= 3 else 1
            expected = told(all_runs_mean(condition, costs, shares, count))
            self.assertEqual(mean_over(condition, costs, shares, count), expected)

    def test_told(self):
        self.assertEqual(mean_over(HAS, [(3, 1)], [HALF], 10), (3, 1))
        self.assertEqual(mean_over(ROW, [(3, 1)], [HALF], 10), (30, 1))
        self.assertEqual(mean_over(count=2, shares=(HALF, HALF), costs=((1, 1), (1, 1)), condition=("all", (ROW, HAS))),
                         (11, 4))
        self.assertEqual(mean_over(("all", (HAS, ROW)), [(1, 1), (1, 1)], [HALF, HALF], 2), (2, 1))
        # A has that stands twice is asked once, with the share and the cost of the first one.
        self.assertEqual(mean_over(("any", (HAS, HAS)), [(1, 1), (9, 1)], [HALF, (1, 3)], 3), (1, 1))
        self.assertEqual(mean_over(("any", (HAS, ROW)), [(1, 1), (1, 1)], [HALF, HALF], 1),
                         mean(("any", (HAS, ROW)), [(1, 1), (1, 1)], [HALF, HALF]))


class Cheapest(unittest.TestCase):
    def test_beside_all_arrangements(self):
        rng = random.Random(153)
        done = unlike = 0
        while done < 60:
            condition = rng.choice((some_condition, some_guarded))(rng, 4)
            if lacking(condition) or len(arrangements(condition)) > 130 or count_tests(condition) > 6:
                continue
            done += 1
            costs, shares = some_costs(rng, count_tests(condition))
            count = rng.choice((1, 2, 5, 10))
            told_plan = cheapest_over(condition, costs, shares, count)
            self.assertEqual(told_plan, plain_cheapest_over(condition, costs, shares, count))
            unlike += told_plan[0] != cheapest(condition, costs, shares)[0]
        self.assertGreater(unlike, 3)

    def test_not_that_of_one_key(self):
        condition, costs, shares = ("all", (HAS, ROW)), [(3, 1), (2, 1)], [HALF, HALF]
        self.assertEqual(cheapest(condition, costs, shares), (("all", (ROW, HAS)), (7, 2)))
        self.assertEqual(cheapest_over(condition, costs, shares, 1), (("all", (ROW, HAS)), (7, 2)))
        self.assertEqual(cheapest_over(condition, costs, shares, 10), (("all", (HAS, ROW)), (13, 1)))
        self.assertEqual(cheapest_over(count=10, shares=shares, costs=costs, condition=condition)[1], (13, 1))

    def test_like_means_take_the_least_places(self):
        condition = ("all", (EQ, ROW, ("eq", "a", 2), HAS))
        self.assertEqual(cheapest_over(condition, [(1, 1)] * 4, [HALF] * 4, 1)[0],
                         ("all", (ROW, HAS, EQ, ("eq", "a", 2))))
        condition = ("any", (("any", (ROW, ROW)), ("any", (ROW, ROW))))
        self.assertEqual(cheapest_over(condition, [(1, 1)] * 4, [HALF] * 4, 3)[0], condition)

    def test_guards_within_a_not(self):
        condition, costs, shares = ("not", ("all", (EQ, HAS, ROW))), [(1, 20), (2, 1), (1, 1)], [(1, 20), HALF, HALF]
        for count in (1, 10):
            told_plan = cheapest_over(condition, costs, shares, count)
            self.assertEqual(told_plan, plain_cheapest_over(condition, costs, shares, count))
            self.assertEqual(told_plan[0][1][1][2], EQ)

    def test_the_first_has_is_that_of_the_condition_as_given(self):
        condition = ("any", (("all", (ROW, HAS)), HAS))
        costs, shares = [(1, 1), (5, 1), (1, 1)], [HALF, (1, 3), (19, 20)]
        self.assertEqual(cheapest_over(condition, costs, shares, 2), plain_cheapest_over(condition, costs, shares, 2))
        self.assertEqual(mean_over(condition, costs, shares, 2), told(plain_mean_over(condition, costs, shares, 2)))
        turned = ("any", (HAS, ("all", (ROW, HAS))))
        costs, shares = [costs[2], *costs[:2]], [shares[2], *shares[:2]]
        otherwise = told(plain_mean_over(turned, costs, shares, 2, {"a": 2}))
        self.assertNotEqual(mean_over(turned, costs, shares, 2), otherwise)


class Refusals(unittest.TestCase):
    def test_no_condition_and_no_past(self):
        for value in odd_values() + [("all", (ROW, ROW))]:
            for call in (run_over, asked_over):
                raised(self, NoCondition, value, call, value, Past(), None, None)
                raised(self, NoPast, 5, call, value, 5, None, None)
            for call in (mean_over, cheapest_over):
                raised(self, NoCondition, value, call, value, None, None, None)
        for value in odd_values():
            raised(self, NoPast, value, run_over, ROW, value, None, None)
            raised(self, NoPast, value, asked_over, ROW, value, None, None)

    def test_counts_and_moments(self):
        for value in odd_values() + [0, 11]:
            for call in (run_over, asked_over):
                raised(self, NoCount, value, call, ROW, Past(), value, None)
            for call in (mean_over, cheapest_over):
                raised(self, NoCount, value, call, EQ, [(1, 1)], [HALF], value)
        for value in odd_values() + [1000]:
            for call in (run_over, asked_over):
                raised(self, NoMoment, value, call, ROW, Past(), 1, value)

    def test_costs_shares_and_guards(self):
        wrong = odd_values() + [[HALF], [HALF] * 3, [HALF, (0, 1)], [HALF, (2, 4)], [HALF, (1, 21)], [HALF, (True, 2)]]
        condition = ("any", (("not", EQ), ROW))
        for call in (mean_over, cheapest_over):
            for value in wrong:
                raised(self, NoCosts, value, call, condition, value, None, None)
                raised(self, NoShares, value, call, condition, [(1, 1)] * 2, value, None)
        raised(self, NoGuard, (0, 0), cheapest_over, condition, [(1, 1)] * 2, [HALF] * 2, 1)
        self.assertEqual(mean_over(condition, [(1, 1)] * 2, [HALF] * 2, 1), (3, 2))


if __name__ == "__main__":
    unittest.main()
