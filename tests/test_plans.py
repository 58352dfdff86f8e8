import random
import unittest
from fractions import Fraction

from plainstore.conditions import run
from plainstore.errors import NoCondition, NoCosts, NoGuard, NoKey, NoMoment, NoPast, NoShares
from plainstore.pasts import Past
from plainstore.plans import cheapest, guards, is_guarded, mean, meaning
from tests.arranged import arrangements, count_tests, is_led, lacking, plain_mean, quick_mean, some_costs, told
from tests.kinds import odd_values, raised
from tests.plainly import state_at
from tests.reckon import some_deeds
from tests.somes import some_condition, some_guarded

ROW = ("row",)
HAS = ("has", "a")
EQ = ("eq", "a", 1)
GUARDED = ("all", (HAS, ROW, EQ))
PAST = Past([(1, "add", "a", 1), (2, "put", 0, ())])
HALF = (1, 2)


def can_be_guarded(rng, most):
    while True:
        condition = rng.choice((some_condition, some_guarded))(rng, most)
        if not lacking(condition):
            return condition


def meant(condition, state, key):
    """What a condition means, all parts looked at."""
    if condition[0] == "not":
        return not meant(condition[1], state, key)
    if condition[0] in ("all", "any"):
        parts = [meant(part, state, key) for part in condition[1]]
        return all(parts) if condition[0] == "all" else any(parts)
    row = state.row(key)
    if condition[0] == "row":
        return row is not None
    if condition[0] == "has":
        return condition[1] in state.names()
    if row is None or condition[1] not in row:
        return False
    return row[condition[1]] == condition[2] if condition[0] == "eq" else row[condition[1]] < condition[2]


def plain_guards(condition):
    """Beside guards: the longest path of an all around, that has the guard among its parts."""
    alls, leaves = [], []

    def go(path, part):
        if part[0] in ("eq", "less"):
            leaves.append((path, part))
        if part[0] == "not":
            go(path + (0,), part[1])
        if part[0] in ("all", "any"):
            if part[0] == "all":
                alls.append((path, part[1]))
            for place, other in enumerate(part[1]):
                go(path + (place,), other)

    go((), condition)
    for path, part in leaves:
        found = []
        for guard in (("has", part[1]), ROW):
            around = [own + (parts.index(guard),) for own, parts in alls if path[:len(own)] == own and guard in parts]
            found.append(max(around, key=len))
        yield (path, *found)


class Guards(unittest.TestCase):
    def test_told(self):
        self.assertEqual(guards(GUARDED), [((2,), (0,), (1,))])
        self.assertEqual(guards(condition=("any", (HAS, ROW))), [])
        nested = ("all", (ROW, ("any", (("all", (EQ, HAS, ROW)), ("not", EQ), ROW)), HAS))
        self.assertEqual(guards(nested), [((1, 0, 0), (1, 0, 1), (1, 0, 2)), ((1, 1, 0), (2,), (0,))])
        self.assertIs(is_guarded(nested), False)
        parted = ("all", (ROW, ("all", (HAS, ("less", "a", 4), ROW))))
        self.assertEqual(guards(parted), [((1, 1), (1, 0), (1, 2))])
        self.assertIs(is_guarded(condition=parted), False)
        self.assertEqual(guards(("all", (ROW, ("all", (HAS, EQ))))), [((1, 1), (1, 0), (0,))])
        self.assertIs(is_guarded(("all", (ROW, ("all", (HAS, EQ))))), True)
        self.assertEqual([is_guarded(condition) for condition in (GUARDED, ("all", (HAS, EQ, ROW)), ROW)],
                         [True, False, True])

    def test_beside_going_down(self):
        rng = random.Random(130)
        for _ in range(400):
            condition = can_be_guarded(rng, 6)
            self.assertEqual(guards(condition), list(plain_guards(condition)))
            self.assertIs(is_guarded(condition), is_led(condition))

    def test_the_first_that_lacks_one(self):
        for condition, path in (
            (EQ, ()), (("not", EQ), (0,)), (("all", (HAS, EQ)), (1,)), (("all", (ROW, EQ, ("less", "a", 3))), (1,)),
            (("all", (HAS, ROW, EQ, ("eq", "b", 1))), (3,)), (("any", (HAS, ROW, EQ)), (2,)),
            (("all", (HAS, ("any", (ROW, EQ)))), (1, 1)), (("any", (GUARDED, ("not", EQ), EQ)), (1, 0)),
            (("all", (("all", (HAS, ROW)), EQ)), (1,)), (("all", (("not", HAS), ROW, EQ)), (2,)),
        ):
            self.check_lacks(condition, path)
        rng = random.Random(131)
        for _ in range(300):
            condition = some_condition(rng)
            if lacking(condition):
                self.check_lacks(condition, lacking(condition)[0])

    def check_lacks(self, condition, path):
        costs, shares = [(1, 1)] * count_tests(condition), [HALF] * count_tests(condition)
        raised(self, NoGuard, path, guards, condition)
        raised(self, NoGuard, path, is_guarded, condition)
        raised(self, NoGuard, path, meaning, condition, PAST, None, None)
        raised(self, NoGuard, path, cheapest, condition, costs, shares)
        self.assertEqual(mean(condition, costs, shares), told(quick_mean(condition, costs, shares)[0]))

    def test_meaning(self):
        rng = random.Random(132)
        words = {"yes": 0, "no": 0}
        for _ in range(600):
            condition = can_be_guarded(rng, 5)
            deeds, key, t = some_deeds(rng, rng.choice((3, 6, 9)), 9, 2), rng.randrange(2), rng.choice((4, 9, 999))
            word = "yes" if meant(condition, state_at(deeds, t), key) else "no"
            self.assertEqual(meaning(condition, Past(deeds), key, t), word)
            words[word] += 1
            if is_led(condition):
                self.assertEqual(run(condition, Past(deeds), key, t), word)
            plan = cheapest(condition, *some_costs(rng, count_tests(condition)))[0]
            self.assertEqual(run(plan, Past(deeds), key, t), word)
        self.assertGreater(min(words.values()), 30)
        self.assertEqual(meaning(t=2, key=0, past=PAST, condition=("all", (EQ, HAS, ROW))), "yes")
        self.assertEqual(meaning(("not", ("all", (EQ, HAS, ROW))), PAST, 0, 1), "yes")


class Means(unittest.TestCase):
    def test_beside_adding_up_all_answers(self):
        rng = random.Random(133)
        for _ in range(150):
            condition = some_condition(rng, 6)
            costs, shares = some_costs(rng, count_tests(condition))
            expected = plain_mean(condition, costs, shares)
            self.assertEqual(mean(condition, costs, shares), told(expected))
            self.assertEqual(mean(condition, tuple(costs), tuple(shares)), told(expected))
            self.assertEqual(quick_mean(condition, costs, shares)[0], expected)

    def test_told(self):
        self.assertEqual(mean(ROW, [(4, 3)], [HALF]), (4, 3))
        self.assertEqual(mean(shares=(HALF, (1, 3)), costs=((1, 1), (1, 1)), condition=("all", (ROW, HAS))), (3, 2))
        self.assertEqual(mean(("any", (ROW, HAS)), [(1, 1), (1, 1)], [(1, 3), HALF]), (5, 3))
        self.assertEqual(mean(("all", (("not", ROW), HAS)), [(1, 1), (1, 1)], [(1, 3), HALF]), (5, 3))


class Cheapest(unittest.TestCase):
    def plain_cheapest(self, condition, costs, shares):
        best = None
        for key, plan, numbers in arrangements(condition):
            if is_led(plan):
                cost = quick_mean(plan, [costs[n] for n in numbers], [shares[n] for n in numbers])[0]
                if best is None or (cost, key) < best[:2]:
                    best = (cost, key, plan)
        return (best[2], told(best[0]))

    def test_beside_all_arrangements(self):
        rng = random.Random(134)
        for number in range(250):
            condition = can_be_guarded(rng, 4 if number % 5 else 6)
            costs, shares = some_costs(rng, count_tests(condition))
            if len(arrangements(condition)) <= 800:
                self.assertEqual(cheapest(condition, costs, shares), self.plain_cheapest(condition, costs, shares))

    def test_like_means_take_the_least_places(self):
        one, two = ("eq", "a", 1), ("eq", "a", 2)
        condition = ("all", (one, HAS, two, ROW))
        self.assertEqual(cheapest(condition, [(1, 1)] * 4, [HALF] * 4)[0], ("all", (HAS, ROW, one, two)))
        condition = ("any", (("not", ("any", (ROW, HAS))), ("has", "b")))
        self.assertEqual(cheapest(condition, [(1, 1)] * 3, [HALF] * 3)[0], ("any", (("has", "b"), condition[1][0])))
        self.assertEqual(cheapest(("any", (ROW, ROW, HAS)), [(1, 1)] * 3, [HALF] * 3),
                         (("any", (ROW, ROW, HAS)), (7, 4)))

    def test_costs_and_shares_move_with_their_tests(self):
        costs, shares = [(3, 1), (2, 1), (1, 1)], [HALF] * 3
        self.assertEqual(cheapest(("all", (HAS, ("has", "b"), ROW)), costs, shares),
                         (("all", (ROW, ("has", "b"), HAS)), (11, 4)))
        self.assertEqual(cheapest(GUARDED, [(4, 1), (1, 1), (1, 1)], [HALF, HALF, (1, 3)]),
                         (("all", (ROW, HAS, EQ)), (13, 4)))
        self.assertEqual(cheapest(shares=[HALF], costs=[(5, 2)], condition=ROW), (ROW, (5, 2)))
        self.assertEqual((costs, shares), ([(3, 1), (2, 1), (1, 1)], [HALF] * 3))

    def test_many_tests(self):
        tests = tuple(("has", name) for name in ("a", "b", "c")) + (ROW,)
        condition = ("any", (*tests, ("not", ROW), ("any", (ROW, HAS, ("has", "b")))))
        costs, shares = some_costs(random.Random(135), 8)
        self.assertEqual(cheapest(condition, costs, shares), self.plain_cheapest(condition, costs, shares))
        self.assertEqual(told(Fraction(*mean(condition, costs, shares))), mean(condition, costs, shares))


class Refusals(unittest.TestCase):
    def test_no_condition(self):
        for value in odd_values() + [("all", (ROW, ROW))]:
            raised(self, NoCondition, value, guards, value)
            raised(self, NoCondition, value, is_guarded, value)
            raised(self, NoCondition, value, meaning, value, PAST, None, None)
            for call in (mean, cheapest):
                raised(self, NoCondition, value, call, value, None, None)

    def test_meaning(self):
        for value in odd_values():
            raised(self, NoPast, value, meaning, None, value, None, None)
        for value in odd_values() + [10]:
            raised(self, NoKey, value, meaning, GUARDED, PAST, value, None)
        for value in odd_values() + [1000]:
            raised(self, NoMoment, value, meaning, GUARDED, PAST, 0, value)

    def test_costs_and_shares(self):
        either = odd_values() + [
            [], [HALF], [HALF] * 3, [HALF, (2, 4)], [HALF, (1, 21)], [HALF, (0, 1)], [HALF, (-1, 2)], [HALF, [1, 2]],
            [HALF, (1, 0)], [HALF, (True, 2)], [HALF, (1, 2, 3)], [HALF, 1], {HALF: 1, (1, 3): 1}, [HALF, (1, -2)],
            [HALF, None], "ab", [HALF, (-1, -2)], [HALF, (0, 2)],
        ]
        condition = ("any", (EQ, ROW))
        for call in (mean, cheapest):
            for value in either + [[HALF, (21, 1)], [HALF, (21, 20)]]:
                raised(self, NoCosts, value, call, condition, value, None)
            for value in either + [[HALF, (1, 1)], [HALF, (3, 2)], [HALF, (20, 19)]]:
                raised(self, NoShares, value, call, condition, [(20, 1), (1, 20)], value)
        self.assertEqual(mean(condition, ((20, 19), (1, 20)), ((19, 20), (1, 20))),
                         told(Fraction(20, 19) + Fraction(1, 400)))


if __name__ == "__main__":
    unittest.main()
