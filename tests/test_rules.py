import random
import unittest
from itertools import permutations

from plainstore.errors import NoCount, NoKeys, NoMoment, NoName, NoPast, NoRules, NoTold, TooMany
from plainstore.pasts import Past
from plainstore.plain import rows_at
from plainstore.rules import Rules, depth, invented, numbered, one_row
from tests.inventions import (
    border_of, depth_of, is_base, renumbered, rows_of_all, rows_of_one, some_ending, some_rules, tables_of,
)
from tests.inventions import rows_at as plain_rows_at
from tests.kinds import odd_values, raised
from tests.reckon import NAMES, some_pasts

FIRST = ("f", ("base", ("a", "b")), ("h", (0, ("new", "n"))))
LATER = ("g", ("h", 2), ("k", (1, ("new", "m"), ("new", "m"))))
PAST = Past([(1, "add", "a", 5), (2, "add", "b", 6), (3, "put", 7, (("a", 1),)), (4, "put", 2, ())])
ENDLESS = Rules([("f", ("base", ("a",)), ("h", (0,))), ("g", ("h", 1), ("h", (("new", "n"),))),
                 ("e", ("h", 1), ("k", (0, ("new", "n")))), ("d", ("k", 2), ("k", (1, ("new", "n"))))])


def some_cases(seed, tries, most=6):
    """Rules that end, pasts with rows, and moments."""
    rng = random.Random(seed)
    pasts = [Past(deeds) for deeds in some_pasts(seed, 40) if len(deeds) > 4]
    for _ in range(tries):
        past = rng.choice(pasts)
        t = rng.choice((999, rng.choice(past.listed())))
        yield rng, some_ending(rng, most, NAMES), past, t


class Forms(unittest.TestCase):
    def test_right_ones(self):
        rng = random.Random(170)
        for _ in range(300):
            told = some_rules(rng)
            rules = Rules(tuple(told))
            self.assertEqual((rules.all_rules(), rules.names(), len(rules)), (told, [r[0] for r in told], len(told)))
            self.assertEqual(list(rules), rules.names())
            self.assertEqual(rules.listed(), rules.names())
            self.assertEqual(list(rules.tables().items()), list(tables_of(told).items()))
            columns = [name for rule in told if is_base(rule) for name in rule[1][1]]
            self.assertEqual(rules.column_names(), sorted(set(columns), key=columns.index))
            for rule in told:
                self.assertEqual(rules.border(rule[0]), border_of(rule))

    def test_told(self):
        rules = Rules([FIRST, LATER])
        self.assertEqual(list(rules.tables().items()), [("h", 2), ("k", 3)])
        self.assertEqual((rules.border("f"), rules.border(name="g"), rules.column_names()), ([0], [1], ["a", "b"]))
        other = Rules([("f", ("k", 3), ("h", (2, 0, 2))), ("e", ("base", ("b", "a")), ("k", (1, 1, 0)))])
        self.assertEqual(list(other.tables().items()), [("k", 3), ("h", 3)])
        self.assertEqual((other.border("f"), other.border("e"), other.column_names()), ([2, 0], [1, 0], ["b", "a"]))
        for empty in (Rules(), Rules([]), Rules(rules=())):
            self.assertEqual((len(empty), list(empty), empty.tables(), empty.column_names()), (0, [], {}, []))

    def test_a_table_called_base(self):
        told = [("base", ("base", 2), ("base", (1, 1))), ("f", ("base", ("base",)), ("base", (0, 0)))]
        rules = Rules(told)
        self.assertEqual((rules.all_rules(), rules.tables(), rules.column_names()), (told, {"base": 2}, ["base"]))
        self.assertEqual(one_row(rules, {"base": 3}), [("base", (3, 3))])
        raised(self, NoRules, 1, Rules, [told[0], ("f", ("base", ("a",)), ("base", (0,)))])

    def test_equal_ones(self):
        self.assertTrue(Rules([FIRST, LATER]) == Rules((FIRST, LATER)))
        for other in (Rules([LATER, FIRST]), Rules([FIRST]), Rules(), [FIRST, LATER], None, 2):
            self.assertFalse(Rules([FIRST, LATER]) == other)
        self.assertTrue(Rules() == Rules([]))

    def test_what_is_handed_in_or_told_may_be_changed(self):
        handed = [FIRST, LATER]
        rules = Rules(handed)
        handed.clear()
        for told in (rules.all_rules(), rules.names(), rules.listed(), rules.column_names(), rules.border("f")):
            told.append(5)
        rules.tables()["x"] = 1
        self.assertTrue(rules == Rules([FIRST, LATER]))
        self.assertEqual((rules.tables(), rules.border("f"), list(rules)), ({"h": 2, "k": 3}, [0], ["f", "g"]))

    def test_no_list(self):
        for value in odd_values() + [Rules(), {}, iter([]), "abc", [FIRST] * 7]:
            if value.__class__ not in (list, tuple) or len(value) > 6:
                raised(self, NoRules, None, Rules, value)
        raised(self, NoRules, None, Rules, rules=[None] * 7)

    def test_the_first_that_is_none(self):
        wrong = [
            ("A",) + FIRST[1:], FIRST[:2], FIRST + (1,), list(FIRST), ("e", ["base", ("a",)], ("h", (0, 0))),
            ("e", ("base", ()), ("h", (0, 0))), ("e", ("base", ("a", "a")), ("h", (0, 0))),
            ("e", ("base", ("a", "b", "c", "d")), ("h", (0, 0))), ("e", ("base", ["a"]), ("h", (0, 0))),
            ("e", ("base", ("A",)), ("h", (0, 0))), ("e", ("bases", ("a",)), ("h", (0, 0))),
            ("e", ("h", ("a",)), ("h", (0, 0))), ("e", ("h", 0), ("h", (0, 0))), ("e", ("h", 4), ("h", (0, 0))),
            ("e", ("h", True), ("h", (0, 0))), ("e", ("h", 2, 2), ("h", (0, 0))), ("e", ("H", 2), ("h", (0, 0))),
            ("e", ("h", 2), ["h", (0, 0)]), ("e", ("h", 2), ("h", [0, 0])), ("e", ("h", 2), ("h", ())),
            ("e", ("h", 2), ("h", (0, 0, 0, 0))), ("e", ("h", 2), ("h", (0, 2))), ("e", ("h", 2), ("h", (0, -1))),
            ("e", ("h", 2), ("h", (0, True))), ("e", ("h", 2), ("h", (0, ("new", "A")))),
            ("e", ("h", 2), ("h", (0, ("New", "a")))), ("e", ("h", 2), ("h", (0, ["new", "a"]))),
            ("e", ("h", 2), ("h", (0, ("new", "a", 1)))), ("e", ("h", 2), ("h", (0, ("new",)))),
            ("e", ("h", 2), ("H", (0, 0))), ("e", ("h", 2), ("h", (0, 0), 1)), ("e", ("h", 2), ("h", (0, "n"))),
            ("e", ("base", ("a",)), ("h", (0, 1))), ("e", ("h", 2.0), ("h", (0, 0))), ("e", ("h", None), ("h", (0, 0))),
        ]
        for value in wrong + odd_values():
            raised(self, NoRules, 0, Rules, [value, None])
            raised(self, NoRules, 1, Rules, (FIRST, value, value))
            for place in (0, 1, 2):
                if value.__class__ is not tuple and not (place == 0 and repr(value) == "'put'"):
                    bent = LATER[:place] + (value,) + LATER[place + 1:]
                    raised(self, NoRules, 2, Rules, [FIRST, ("x",) + LATER[1:], bent])

    def test_names_widths_and_tables(self):
        raised(self, NoRules, 1, Rules, [FIRST, ("f",) + LATER[1:], None])
        raised(self, NoRules, 1, Rules, [FIRST, ("g", ("h", 1), ("k", (0,)))])
        raised(self, NoRules, 1, Rules, [FIRST, ("g", ("k", 1), ("h", (0, 0, 0)))])
        raised(self, NoRules, 0, Rules, [("g", ("h", 1), ("h", (0, 0)))])
        four = [("a", ("h", 1), ("k", (0,))), ("b", ("m", 1), ("p", (0,)))]
        self.assertEqual(list(Rules(four).tables()), ["h", "k", "m", "p"])
        raised(self, NoRules, 2, Rules, four + [("c", ("p", 1), ("q", (0,))), None])
        raised(self, NoRules, 2, Rules, four + [("c", ("q", 1), ("p", (0,)))])
        self.assertEqual(len(Rules(four + [("c", ("p", 1), ("h", (0,)))])), 3)

    def test_border_of_no_rule(self):
        for value in odd_values() + ["x", "h", 0]:
            raised(self, NoName, value, Rules([FIRST, LATER]).border, value)
            raised(self, NoName, value, Rules([FIRST, LATER]).border, name=value)


class Invented(unittest.TestCase):
    def test_beside_a_table_that_goes_key_by_key(self):
        deepest = 0
        for rng, told, past, t in some_cases(171, 400):
            rules = Rules(told)
            rows = plain_rows_at(past.deeds(), t)
            plain = rows_of_all(told, rows, sorted(rows))
            self.assertEqual(invented(rules, past, t), plain)
            deepest = max([deepest] + [depth_of(value) for row in plain for value in row[1]])
            keys = rng.sample(sorted(rows), len(rows))
            self.assertEqual(numbered(rules, past, t, tuple(keys)), renumbered(rows_of_all(told, rows, keys)))
            for row in list(rows.values())[:2]:
                self.assertEqual(one_row(rules, row), rows_of_one(told, row))
            for most in {1, len(plain) - 1, len(plain), len(plain) + 1} - {0, -1}:
                if most < len(plain):
                    raised(self, TooMany, most, invented, rules, past, t, most=most)
                    raised(self, TooMany, most, numbered, rules, past, t, keys, most=most)
                else:
                    self.assertEqual(invented(rules, past, t, most=most), plain)
        self.assertGreater(deepest, 1)

    def test_made_values_in_made_values(self):
        tables = ("h", "k", "m", "p")
        told = [("a", ("base", ("a",)), ("h", (0, ("new", "n"))))]
        for place in (1, 2, 3):
            head = (tables[place], (1, ("new", "n")) if place < 3 else (("new", "m"), 0, ("new", "n")))
            told.append(("bcd"[place - 1], (tables[place - 1], 2), head))
        rows = one_row(Rules(told), {"a": 7})
        self.assertEqual(rows, rows_of_one(told, {"a": 7}))
        self.assertEqual([[depth(value) for value in entries] for _, entries in rows],
                         [[0, 1], [1, 2], [2, 3], [3, 2, 3]])
        past = Past([(1, "add", "a", 7), (2, "put", 0, ()), (3, "put", 1, (("a", 8),)), (4, "put", 2, ())])
        for keys in permutations(range(3)):
            plain = renumbered(rows_of_all(told, plain_rows_at(past.deeds(), 4), keys))
            self.assertEqual(numbered(Rules(told), past, 4, keys), plain)
            self.assertEqual(plain[-1], ("p", (("n", 8), ("n", 6), ("n", 9))))

    def test_told(self):
        rules = Rules([LATER, FIRST])
        one, two = ("f", "n", (5,)), ("f", "n", (1,))
        inner, other = ("g", "m", (one,)), ("g", "m", (two,))
        self.assertEqual(invented(rules, PAST, 4), [
            ("h", (5, one)), ("k", (one, inner, inner)), ("h", (1, two)), ("k", (two, other, other)),
        ])
        self.assertEqual(invented(t=2, past=PAST, rules=rules), [])
        self.assertEqual(invented(Rules([LATER]), PAST, 4), [])
        self.assertEqual(invented(most=2, t=3, past=PAST, rules=rules), [("h", (1, two)), ("k", (two, other, other))])
        self.assertEqual(numbered(rules, PAST, 4, [7, 2]), [
            ("h", (1, ("n", 0))), ("k", (("n", 0), ("n", 1), ("n", 1))),
            ("h", (5, ("n", 2))), ("k", (("n", 2), ("n", 3), ("n", 3))),
        ])
        self.assertEqual(numbered(keys=(7,), t=3, past=PAST, rules=rules)[0], ("h", (1, ("n", 0))))
        self.assertEqual([depth(value) for value in (0, 99, one, inner, ("x", "y", ()), ("x", "y", (3, inner)))],
                         [0, 0, 1, 2, 1, 3])
        self.assertEqual(depth(value=inner), 2)

    def test_base_rules_come_first_and_each_row_once(self):
        rules = Rules([("b", ("h", 1), ("k", (0,))), ("a", ("base", ("a",)), ("h", (0,))),
                       ("c", ("base", ("b",)), ("k", (0,))), ("d", ("k", 1), ("h", (0,)))])
        past = Past([(1, "add", "a", 1), (2, "add", "b", 2), (3, "put", 5, ()), (4, "put", 6, (("b", 1),))])
        self.assertEqual(invented(rules, past, 3), [("h", (1,)), ("k", (2,)), ("k", (1,)), ("h", (2,))])
        self.assertEqual(invented(rules, past, 4), [("h", (1,)), ("k", (2,)), ("k", (1,)), ("h", (2,))])
        self.assertEqual(numbered(rules, past, 4, [6, 5]), [("h", (1,)), ("k", (1,)), ("k", (2,)), ("h", (2,))])

    def test_all_names_have_to_be_columns(self):
        rules = Rules([("a", ("base", ("a", "c")), ("h", (1, 0))), ("b", ("base", ("b",)), ("k", (0,)))])
        self.assertEqual(invented(rules, PAST, 3), [("k", (6,))])
        self.assertEqual(one_row(rules, {"c": 1, "a": 2, "zz": 3}), [("h", (1, 2))])
        self.assertEqual(one_row(values={}, rules=rules), [])

    def test_all_orders_of_keys(self):
        deeds = [(1, "add", "a", 0), (2, "add", "b", 3)]
        deeds += [(3 + key, "put", key, (("a", key // 2),)) for key in range(4)]
        told = [("f", ("base", ("a",)), ("h", (0, ("new", "n")))),
                ("g", ("h", 2), ("k", (("new", "n"), 1, ("new", "m")))), ("e", ("k", 3), ("p", (1, 0)))]
        rules, past = Rules(told), Past(deeds)
        rows = rows_at(past, 9)
        unlike = set()
        for keys in permutations(range(4)):
            shown = numbered(rules, past, 9, keys)
            self.assertEqual(shown, renumbered(rows_of_all(told, rows, keys)))
            unlike.add(tuple(shown))
        self.assertEqual(len(unlike), 2)

    def test_told_lists_may_be_changed(self):
        rules = Rules([FIRST])
        for call in (lambda: invented(rules, PAST, 4), lambda: numbered(rules, PAST, 4, [2, 7]),
                     lambda: one_row(rules, {"a": 1, "b": 2})):
            told = call()
            call().clear()
            self.assertEqual(call(), told)
        values = {"a": 1, "b": 2}
        one_row(rules, values)
        self.assertEqual(values, {"a": 1, "b": 2})

    def test_rules_that_never_end(self):
        past = Past([(1, "add", "a", 1), (2, "put", 0, ())])
        self.assertEqual(invented(ENDLESS, past, 1), [])
        self.assertEqual(numbered(ENDLESS, past, 1, []), [])
        for most in (1, 2, 50, 2000):
            raised(self, TooMany, most, invented, ENDLESS, past, 2, most=most)
            raised(self, TooMany, most, numbered, ENDLESS, past, 2, [0], most=most)
            raised(self, TooMany, most, one_row, ENDLESS, {"a": 3}, most=most)
        raised(self, TooMany, 2000, invented, ENDLESS, past, 2)
        raised(self, TooMany, 2000, one_row, ENDLESS, {"a": 3})
        raised(self, TooMany, 20000, one_row, ENDLESS, {"a": 3}, most=20000)
        self.assertEqual(one_row(ENDLESS, {"b": 3}), [])


class Refusals(unittest.TestCase):
    def test_in_their_order(self):
        rules = Rules([FIRST])
        for value in odd_values() + [[FIRST]]:
            raised(self, NoRules, value, invented, value, None, None, most=None)
            raised(self, NoRules, value, numbered, value, None, None, None, most=None)
            raised(self, NoRules, value, one_row, value, None, most=None)
            raised(self, NoPast, value, invented, rules, value, None, most=None)
            raised(self, NoPast, value, numbered, rules, value, None, None, most=None)
        for value in odd_values() + [1000]:
            raised(self, NoMoment, value, invented, rules, PAST, value, most=None)
            raised(self, NoMoment, value, numbered, rules, PAST, value, None, most=None)
            raised(self, NoMoment, value, invented, t=value, past=PAST, rules=rules)

    def test_keys(self):
        rules = Rules([FIRST])
        past = Past([(1, "add", "a", 1), (2, "put", 0, ()), (3, "put", 1, ())])
        wrong = [[0], [1], [0, 0], [0, 1, 1], [0, 1, 2], {0: 0, 1: 1}, [False, True], [0, True], [0.0, 1], "01",
                 range(2)]
        for value in odd_values() + wrong:
            raised(self, NoKeys, value, numbered, rules, past, 3, value, most=None)
            raised(self, NoKeys, value, numbered, keys=value, t=3, past=past, rules=rules)
        self.assertEqual(numbered(rules, past, 3, [1, 0]), [])
        self.assertEqual(numbered(rules, past, 0, ()), [])
        raised(self, NoKeys, [0], numbered, rules, past, 1, [0])

    def test_values(self):
        wrong = [{"A": 1}, {"a": 100}, {"a": True}, {"a": None}, {1: 1}, {"a": 1, "b": -1}, [("a", 1)], {"abcde": 1}]
        for value in odd_values() + wrong:
            if repr(value) != "{}":
                raised(self, NoTold, value, one_row, Rules([FIRST]), value, most=None)
                raised(self, NoTold, value, one_row, values=value, rules=Rules([FIRST]))

    def test_most(self):
        rules = Rules([FIRST, LATER])
        for value in odd_values() + [0]:
            if repr(value) != repr(10 ** 30):
                raised(self, NoCount, value, invented, rules, PAST, 4, most=value)
                raised(self, NoCount, value, numbered, rules, PAST, 4, [2, 7], most=value)
                raised(self, NoCount, value, one_row, rules, {}, most=value)
        self.assertRaises(TypeError, invented, rules, PAST, 4, 2000)
        self.assertRaises(TypeError, numbered, rules, PAST, 4, [2, 7], 2000)
        self.assertRaises(TypeError, one_row, rules, {}, 2000)
        self.assertEqual(len(invented(rules, PAST, 4, most=10 ** 30)), 4)


if __name__ == "__main__":
    unittest.main()
