import random
import unittest
from itertools import permutations, product

from plainstore.conditions import (
    asked, how_many_orders, is_arrangement, is_condition, names_of, paths, run, tests_of,
)
from plainstore.errors import NoCondition, NoKey, NoMoment, NoPast
from plainstore.pasts import Past
from tests.kinds import odd_values, raised
from tests.plainly import state_at
from tests.reckon import some_deeds
from tests.somes import some_condition

ROW = ("row",)
HAS = ("has", "a")
EQ = ("eq", "a", 1)
LESS = ("less", "b", 5)
GUARDED = ("all", (("has", "a"), ("row",), ("eq", "a", 1)))
DEEP = ("all", (("any", (ROW, ("not", HAS))), EQ))
PAST = Past([(1, "add", "a", 1), (2, "put", 0, ()), (3, "put", 1, (("a", 7),)), (5, "drop", "a"), (6, "add", "b", 5)])


class Faults(Exception):
    pass


def plain_asked(condition, deeds, key, t):
    """The answers in the order in which they come, and the outcome: a test that fails leaves it all at once."""
    state = state_at(deeds, t)
    numbers = {}

    def number(path, part):
        if part[0] in ("all", "any"):
            for place, other in enumerate(part[1]):
                number(path + (place,), other)
        elif part[0] == "not":
            number(path + (0,), part[1])
        else:
            numbers[path] = len(numbers)

    told = []

    def go(path, part):
        if part[0] == "not":
            return not go(path + (0,), part[1])
        if part[0] == "all":
            return all(go(path + (place,), other) for place, other in enumerate(part[1]))
        if part[0] == "any":
            return any(go(path + (place,), other) for place, other in enumerate(part[1]))
        row = state.row(key)
        if part[0] == "row":
            is_so = row is not None
        elif part[0] == "has":
            is_so = part[1] in state.names()
        elif row is None or part[1] not in row:
            told.append((numbers[path], "fault"))
            raise Faults
        else:
            is_so = row[part[1]] == part[2] if part[0] == "eq" else row[part[1]] < part[2]
        told.append((numbers[path], "yes" if is_so else "no"))
        return is_so

    number((), condition)
    try:
        return told, "yes" if go((), condition) else "no"
    except Faults:
        return told, "fault"


def all_arrangements(condition):
    """All arrangements, alike ones too."""
    if condition[0] == "not":
        return [("not", part) for part in all_arrangements(condition[1])]
    if condition[0] not in ("all", "any"):
        return [condition]
    told = []
    for order in permutations(condition[1]):
        told += [(condition[0], parts) for parts in product(*[all_arrangements(part) for part in order])]
    return told


class Conditions(unittest.TestCase):
    def test_conditions(self):
        for value in [
            ROW, HAS, EQ, LESS, ("has", "zzzz"), ("eq", "a", 0), ("eq", "a", 99), ("less", "a", 0), ("not", ROW), DEEP,
            ("all", (ROW,)), ("any", (ROW,) * 6), ("not", ("not", ("not", ROW))), GUARDED,
            ("any", (HAS, HAS, ROW, ROW)),
            ("all", (("any", (("all", (ROW,)),)),)), ("all", (ROW, ("all", (ROW, HAS)), HAS, ("has", "b"))),
            ("all", (("not", ROW), ("not", ROW), EQ, EQ)),
        ]:
            self.assertIs(is_condition(value), True, value)
        self.assertIs(is_condition(value=ROW), True)

    def test_forms_that_are_none(self):
        for value in odd_values() + [
            ("rows",), ("row", "a"), ("has",), ("has", "A"), ("has", "abcde"), ("has", ""), ("has", "a", "b"),
            ("has", 1),
            ("eq", "a"), ("eq", "a", 100), ("eq", "a", -1), ("eq", "a", True), ("eq", "a", 1.0), ("eq", "a", 1, 1),
            ("eq", 1, "a"), ("more", "a", 1), ("less", "a", None), ("not",), ("not", ROW, ROW), ("not", (ROW,)),
            ("all", ()), ("all", ROW), ("all", [ROW]), ("any", ()), ("any", (ROW,) * 7), ("all", (ROW, None)), ["row"],
            ("all", (ROW,), (ROW,)), ("any",), (("row",),), ("", "a"), "row", ("all", (EQ, ["row"])), ("not", None),
        ]:
            self.assertIs(is_condition(value), False, value)
            self.assertIs(is_condition(("not", value)), False, value)
            self.assertIs(is_condition(("any", (ROW, value))), False, value)
        for value in odd_values():
            for part in ((value,), ("has", value), ("eq", value, 1), ("eq", "a", value), ("less", "a", value),
                         (value, ROW),
                         ("all", value), ("any", value), ("not", value), ("row", value)):
                if repr(value) != "'put'" or part[0] not in ("has", "eq"):
                    self.assertIs(is_condition(part), False)

    def test_nodes_within_one_another(self):
        for words in product(("not", "all", "any"), repeat=4):
            value = ROW
            for number, word in enumerate(words, 1):
                value = (word, value) if word == "not" else (word, (HAS, value))
                self.assertIs(is_condition(value), number <= 3)
        deep = ROW
        for _ in range(5000):
            deep = ("not", deep)
        self.assertIs(is_condition(deep), False)

    def test_tests_names_and_values(self):
        six, eight = ("any", (EQ,) * 6), ("any", (("any", (EQ,) * 4), ("any", (EQ,) * 4)))
        self.assertEqual([is_condition(value) for value in (six, eight)], [True, True])
        self.assertIs(is_condition(("any", (("any", (EQ,) * 5), ("any", (EQ,) * 4)))), False)
        self.assertIs(is_condition(("any", (six, ROW, HAS, ROW))), False)
        self.assertIs(is_condition(("any", (six, ROW, HAS))), True)
        names = [("has", name) for name in ("a", "b", "c", "d")]
        self.assertEqual([is_condition(("all", tuple(names[:many]))) for many in (2, 3, 4)], [True, True, False])
        self.assertIs(is_condition(("any", (*names[:3], ("eq", "d", 1)))), False)
        values = [("eq", "a", value) for value in (1, 2, 3)]
        self.assertIs(is_condition(("any", tuple(values))), True)
        self.assertIs(is_condition(("any", (*values, ("less", "b", 3)))), True)
        self.assertIs(is_condition(("any", (*values, ("less", "b", 4)))), False)
        self.assertIs(is_condition(("any", (*values, ("less", "a", 0)))), False)

    def test_guards_stand_once(self):
        for guard in (ROW, HAS):
            self.assertIs(is_condition(("all", (guard, EQ, guard))), False)
            self.assertIs(is_condition(("any", (guard, EQ, guard))), True)
            self.assertIs(is_condition(("all", (guard, ("any", (guard, guard))))), True)
            self.assertIs(is_condition(("any", (("all", (guard, EQ, guard)), ROW))), False)
            self.assertIs(is_condition(("not", ("all", (EQ, ("all", (guard, guard)))))), False)


class Parts(unittest.TestCase):
    def test_tests_and_names(self):
        self.assertEqual(tests_of(DEEP), [ROW, HAS, EQ])
        self.assertEqual(tests_of(condition=EQ), [EQ])
        self.assertEqual(tests_of(("any", (LESS, ("not", LESS), LESS))), [LESS, LESS, LESS])
        self.assertEqual(names_of(("any", (LESS, ROW, HAS, ("eq", "b", 2), ("has", "c"), EQ))), ["b", "a", "c"])
        self.assertEqual(names_of(condition=ROW), [])

    def test_paths(self):
        self.assertEqual(paths(DEEP), [
            ((), DEEP), ((0,), DEEP[1][0]), ((0, 0), ROW), ((0, 1), ("not", HAS)), ((0, 1, 0), HAS), ((1,), EQ),
        ])
        self.assertEqual(paths(condition=ROW), [((), ROW)])
        rng = random.Random(110)
        for _ in range(200):
            condition = some_condition(rng)
            told = paths(condition)
            self.assertEqual(told[0], ((), condition))
            self.assertEqual([path for path, _ in told], sorted(path for path, _ in told))
            leaves = [part for _, part in told if part[0] not in ("not", "all", "any")]
            self.assertEqual(tests_of(condition), leaves)
            names = [test[1] for test in leaves if len(test) > 1]
            self.assertEqual(names_of(condition), sorted(set(names), key=names.index))
            for path, part in told:
                at = condition
                for place in path:
                    at = at[1] if at[0] == "not" else at[1][place]
                self.assertEqual(at, part)
            inner = sum(len(part[1]) if part[0] != "not" else 1 for _, part in told if part not in leaves)
            self.assertEqual(len(told), inner + 1)

    def test_told_lists_may_be_changed(self):
        for tell in (tests_of, names_of, paths):
            whole = tell(DEEP)
            tell(DEEP).clear()
            self.assertEqual(tell(DEEP), whole)


class Runs(unittest.TestCase):
    def test_each_test(self):
        self.assertEqual([run(ROW, PAST, key, t) for key, t in ((0, 1), (0, 2), (2, 9))], ["no", "yes", "no"])
        self.assertEqual([run(HAS, PAST, 5, t) for t in (0, 1, 4, 5)], ["no", "yes", "yes", "no"])
        self.assertEqual([run(EQ, PAST, key, t) for key, t in ((0, 1), (0, 2), (1, 3), (0, 5))],
                         ["fault", "yes", "no", "fault"])
        self.assertEqual([run(("less", "a", v), PAST, 1, 3) for v in (6, 7, 8)], ["no", "no", "yes"])
        self.assertEqual([run(("less", "b", v), PAST, 0, 999) for v in (5, 6)], ["no", "yes"])

    def test_ends(self):
        self.assertEqual(asked(GUARDED, PAST, 0, 2), [(0, "yes"), (1, "yes"), (2, "yes")])
        self.assertEqual(asked(GUARDED, PAST, 0, 5), [(0, "no")])
        self.assertEqual(asked(("all", (EQ, HAS)), PAST, 0, 5), [(0, "fault")])
        self.assertEqual(asked(("any", (HAS, EQ)), PAST, 0, 1), [(0, "yes")])
        self.assertEqual(asked(("any", (("not", HAS), ("all", (ROW, EQ)), EQ, HAS)), PAST, 0, 1),
                         [(0, "yes"), (1, "no"), (3, "fault")])
        self.assertEqual(run(("not", EQ), PAST, 0, 1), "fault")
        self.assertEqual(run(("not", ("any", (ROW, EQ))), PAST, 0, 2), "no")
        self.assertEqual(asked(t=2, key=0, past=PAST, condition=("not", ROW)), [(0, "yes")])
        self.assertEqual(run(t=2, key=0, past=PAST, condition=("not", ROW)), "no")

    def test_beside_the_plain_run(self):
        rng = random.Random(111)
        outcomes = {"yes": 0, "no": 0, "fault": 0}
        for _ in range(1500):
            condition = some_condition(rng)
            deeds = some_deeds(rng, rng.choice((0, 3, 6, 9)), 9, 2)
            key, t = rng.randrange(2), rng.choice((0, 5, 9, 9, 999))
            told, outcome = plain_asked(condition, deeds, key, t)
            self.assertEqual(asked(condition, Past(deeds), key, t), told)
            self.assertEqual(run(condition, Past(deeds), key, t), outcome)
            outcomes[outcome] += 1
        self.assertGreater(min(outcomes.values()), 100)


class Arrangements(unittest.TestCase):
    def test_beside_all_arrangements(self):
        rng = random.Random(112)
        conditions = [c for c in (some_condition(rng, 5) for _ in range(60)) if len(all_arrangements(c)) <= 60]
        self.assertGreater(len(conditions), 30)
        for condition in conditions:
            mine = all_arrangements(condition)
            self.assertEqual(how_many_orders(condition), len(mine))
            others = [value for other in conditions[:8] for value in all_arrangements(other)]
            for value in mine + conditions + others:
                self.assertIs(is_arrangement(condition, value), value in mine)

    def test_told(self):
        self.assertIs(is_arrangement(DEEP, DEEP), True)
        self.assertIs(is_arrangement(DEEP, ("all", (EQ, ("any", (("not", HAS), ROW))))), True)
        self.assertIs(is_arrangement(DEEP, ("any", (EQ, ("any", (("not", HAS), ROW))))), False)
        self.assertIs(is_arrangement(DEEP, ("all", (EQ, ("all", (("not", HAS), ROW))))), False)
        self.assertIs(is_arrangement(("any", (ROW, ROW, HAS)), ("any", (ROW, HAS, HAS))), False)
        self.assertIs(is_arrangement(("any", (ROW, ROW, HAS)), ("any", (ROW, HAS, ROW))), True)
        self.assertIs(is_arrangement(("any", (ROW, HAS)), ("any", (ROW,))), False)
        self.assertIs(is_arrangement(value=("not", ROW), condition=("not", HAS)), False)
        self.assertIs(is_arrangement(("not", ("not", ROW)), ("not", ROW)), False)
        self.assertEqual([how_many_orders(condition) for condition in (ROW, ("not", ROW), ("any", (ROW,) * 6), DEEP)],
                         [1, 1, 720, 4])
        self.assertEqual(how_many_orders(condition=("all", (("any", (EQ,) * 3), ("any", (EQ,) * 2), ROW))), 72)

    def test_any_value(self):
        one = ("any", (("eq", "a", 1), ("eq", "b", 0)))
        self.assertIs(is_arrangement(one, one), True)
        for value in odd_values() + [("any", (("eq", "a", True), ("eq", "b", 0))),
                                     ("any", (("eq", "a", 1), ("eq", "b", 0.0))),
                                     ("any", list(one[1])), list(one)]:
            self.assertIs(is_arrangement(one, value), False)
            self.assertIs(is_arrangement(one, ("any", (("eq", "a", 1), value))), False)


class Refusals(unittest.TestCase):
    def test_no_condition(self):
        wrong = odd_values() + [("all", (ROW, ROW)), ("any", ()), ("not", ("not", ("not", ("not", ROW)))),
                                ("eq", "a", 100)]
        for value in wrong:
            for call in (tests_of, names_of, paths, how_many_orders):
                raised(self, NoCondition, value, call, value)
            raised(self, NoCondition, value, is_arrangement, value, ROW)
            for call in (run, asked):
                raised(self, NoCondition, value, call, value, PAST, None, None)
                raised(self, NoPast, None, call, value, None, None, None)

    def test_the_others(self):
        for call in (run, asked):
            for value in odd_values() + [PAST.deeds()]:
                raised(self, NoPast, value, call, None, value, None, None)
                raised(self, NoPast, value, call, t=None, key=None, past=value, condition=ROW)
            for value in odd_values() + [10]:
                raised(self, NoKey, value, call, ROW, PAST, value, None)
            for value in odd_values() + [1000]:
                raised(self, NoMoment, value, call, ROW, PAST, 0, value)


if __name__ == "__main__":
    unittest.main()
