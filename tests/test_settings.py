import random
import unittest
from itertools import combinations, permutations

from plainstore.conditions import run
from plainstore.errors import NoRules, NoSetting
from plainstore.pasts import Past
from plainstore.pictures import outcome, past_of, pictures
from plainstore.rules import Rules, numbered
from plainstore.settings import Setting, is_plain, varying, verdict
from tests.arranged import arrangements
from tests.inventions import (
    arrows_of, border_of, is_base, raised_numbers, reached_tables, some_ending, some_rules, tables_of,
)
from tests.kinds import odd_values, raised
from tests.somes import some_condition
from tests.test_parted import is_parted

WORDS = ["count", "reads", "writes", "unruly", "pages", "condition", "plan", "reading", "making", "rules"]
BOTH = ("all", (("row",), ("has", "a"), ("eq", "a", 1)))
TURNED = ("all", (("eq", "a", 1), ("row",), ("has", "a")))
FIRST = ("f", ("base", ("a",)), ("h", (0, ("new", "n"))))
ENDLESS = Rules([FIRST, ("g", ("h", 2), ("h", (1, ("new", "n"))))])


def plainly_varying(rules):
    """The places that vary, spread until no more do."""
    reached = reached_tables(rules)
    told = set()
    for _ in range(20):
        for rule in rules:
            table, entries = rule[2]
            if is_base(rule):
                told |= {(table, at) for at, entry in enumerate(entries) if isinstance(entry, int) or border_of(rule)}
            elif rule[1][0] in reached:
                told |= {(table, end) for start, end, _ in arrows_of(rule) if (rule[1][0], start) in told}
    return told


def first_varying(rules):
    """The first new entry that varies, as (rule, word), or None."""
    places = plainly_varying(rules)
    for rule in rules:
        for entry in rule[2][1]:
            if not isinstance(entry, int):
                if is_base(rule) and border_of(rule):
                    return (rule[0], entry[1])
                if not is_base(rule) and any((rule[1][0], at) in places for at in border_of(rule)):
                    return (rule[0], entry[1])
    return None


def plain_verdict(setting):
    """The verdict, by going through lots, pictures, mixed outcomes and entries."""
    n, r, w = setting.many, setting.reads, setting.writes
    wild = setting.unruly if setting.pages > 1 else 0
    lots = [(read, write) for read in combinations(range(n), r) for write in combinations(range(n), w)]
    if not all(len(set(read) & set(write)) > wild for read, write in lots):
        return ("bars", "copies", (tuple(range(r)), tuple(range(n - w, n))))
    for picture in pictures(setting.condition):
        past = past_of(setting.condition, picture)
        if run(setting.condition, past, 0, 999) != run(setting.plan, past, 0, 999):
            return ("bars", "plan", picture)
    if setting.reading == "each":
        cases = [(picture, past_of(setting.plan, picture).deeds()) for picture in pictures(setting.plan)]
        for count in range(1, 9):
            for one, first in cases:
                for other, second in cases:
                    if is_parted(setting.plan, first, second, count):
                        return ("bars", "reading", (one, other, count))
    if setting.making == "number" and first_varying(setting.rules.all_rules()) is not None:
        return ("bars", "making", first_varying(setting.rules.all_rules()))
    return ("plain",)


def some_setting(rng, condition=None):
    count = rng.randrange(1, 6)
    reads, writes = rng.randrange(1, count + 1), rng.randrange(1, count + 1)
    if rng.random() < 0.7:
        reads = writes = count
    while condition is None or len(pictures(condition)) > 20:
        condition = some_condition(rng, 4)
    plan = rng.choice(arrangements(condition))[1]
    return Setting(
        count, reads, writes, rng.choice((0, 0, 1)), rng.choice((1, 2, 6)), condition=condition,
        plan=rng.choice((None, condition, plan)), reading=rng.choice(("one", "one", "each")),
        making=rng.choice(("content", "number")), rules=rng.choice((None, Rules(some_ending(rng)))),
    )


class Properties(unittest.TestCase):
    def test_what_stands_where_nothing_is_told(self):
        setting = Setting()
        told = (setting.many, setting.reads, setting.writes, setting.unruly, setting.pages)
        self.assertEqual(told, (3, 2, 2, 0, 1))
        self.assertEqual((setting.condition, setting.plan), (("row",), ("row",)))
        self.assertEqual((setting.reading, setting.making), ("one", "content"))
        self.assertTrue(setting.rules == Rules())
        self.assertEqual((verdict(setting), is_plain(setting)), (("plain",), True))

    def test_what_is_told(self):
        rules = Rules([FIRST])
        setting = Setting(5, 4, 3, 2, 6, condition=BOTH, plan=TURNED, reading="each", making="number", rules=rules)
        told = (setting.many, setting.reads, setting.writes, setting.unruly, setting.pages)
        self.assertEqual(told, (5, 4, 3, 2, 6))
        self.assertEqual((setting.condition, setting.plan), (BOTH, TURNED))
        self.assertEqual((setting.reading, setting.making), ("each", "number"))
        self.assertTrue(setting.rules == rules)
        self.assertEqual(Setting(condition=BOTH).plan, BOTH)
        other = Setting(rules=rules, making="number", reading="each", plan=TURNED, condition=BOTH, pages=6, unruly=2,
                        writes=3, reads=4, count=5)
        self.assertTrue(other == setting)
        self.assertRaises(TypeError, Setting, 3, 2, 2, 0, 1, BOTH)

    def test_they_are_properties_that_are_not_assigned(self):
        setting = Setting()
        for name in ["many"] + WORDS[1:]:
            self.assertIsInstance(vars(Setting)[name], property)
            with self.assertRaises(AttributeError):
                setattr(setting, name, 1)

    def test_equal_ones_and_twins(self):
        right = {"count": 4, "reads": 3, "writes": 3, "unruly": 1, "pages": 2, "condition": BOTH, "plan": BOTH,
                 "reading": "one", "making": "content", "rules": Rules([FIRST])}
        others = {"count": 5, "reads": 2, "writes": 2, "unruly": 0, "pages": 1, "condition": TURNED, "plan": TURNED,
                  "reading": "each", "making": "number", "rules": Rules()}
        setting = Setting(**right)
        twin = setting.twin()
        self.assertTrue(twin == setting)
        self.assertIsNot(twin, setting)
        for word, value in others.items():
            self.assertFalse(Setting(**{**right, word: value}) == setting, word)
        for other in (None, ("plain",), 4, right):
            self.assertFalse(setting == other)
        self.assertTrue(Setting(plan=None) == Setting(plan=("row",), rules=Rules()))


class Refusals(unittest.TestCase):
    def test_the_first_wrong_word(self):
        right = {"count": 3, "reads": 2, "writes": 2, "unruly": 1, "pages": 2, "condition": BOTH, "plan": TURNED,
                 "reading": "one", "making": "content", "rules": Rules([FIRST])}
        wrong = {"count": 6, "reads": 4, "writes": 0, "unruly": 4, "pages": 7, "condition": ("eq", "a"),
                 "plan": ("all", (("row",), ("has", "a"))), "reading": "both", "making": "names", "rules": ENDLESS}
        for place, word in enumerate(WORDS):
            raised(self, NoSetting, word, Setting, **{**right, word: wrong[word]})
            behind = {other: wrong[other] for other in WORDS[place:]}
            raised(self, NoSetting, word, Setting, **{**right, **behind})
            for value in odd_values():
                if not (word in ("plan", "rules") and value is None):
                    raised(self, NoSetting, word, Setting, **{**right, word: value})
        self.assertTrue(Setting(**right) == Setting(**right))

    def test_counts_that_hang_on_one_another(self):
        raised(self, NoSetting, "count", Setting, 0, 1, 1)
        raised(self, NoSetting, "count", Setting, True, 1, 1)
        raised(self, NoSetting, "reads", Setting, 1)
        raised(self, NoSetting, "writes", Setting, 2, 2, 3)
        raised(self, NoSetting, "unruly", Setting, 2, 2, 2, 3)
        raised(self, NoSetting, "unruly", Setting, 2, 2, 2, -1)
        raised(self, NoSetting, "unruly", Setting, 2, 2, 2, False)
        raised(self, NoSetting, "pages", Setting, 2, 2, 2, 2, 0)
        self.assertEqual(Setting(1, 1, 1, 1, 6).unruly, 1)

    def test_plans_and_rules(self):
        raised(self, NoSetting, "plan", Setting, plan=BOTH)
        raised(self, NoSetting, "plan", Setting, condition=BOTH, plan=("any", BOTH[1]))
        raised(self, NoSetting, "rules", Setting, rules=[FIRST])
        raised(self, NoSetting, "rules", Setting, rules=ENDLESS)

    def test_no_settings(self):
        for value in odd_values() + [{}]:
            for call in (verdict, is_plain):
                raised(self, NoSetting, value, call, value)
                raised(self, NoSetting, value, call, setting=value)
            raised(self, NoRules, value, varying, value)
            raised(self, NoRules, value, varying, rules=value)


class Verdicts(unittest.TestCase):
    def test_beside_going_through_all(self):
        rng = random.Random(210)
        seen = {}
        for _ in range(700):
            setting = some_setting(rng)
            told = verdict(setting)
            self.assertEqual(told, plain_verdict(setting))
            self.assertIs(is_plain(setting), told == ("plain",))
            self.assertEqual(verdict(setting=setting.twin()), told)
            seen[told[:2]] = seen.get(told[:2], 0) + 1
        self.assertEqual(set(seen), {("plain",)} | {("bars", word) for word in ("copies", "plan", "reading", "making")})
        self.assertGreater(min(seen.values()), 20)

    def test_counts(self):
        for n in range(1, 6):
            for r in range(1, n + 1):
                for w in range(1, n + 1):
                    for m in range(n + 1):
                        for pages in (1, 2, 5):
                            setting = Setting(n, r, w, m, pages)
                            self.assertEqual(verdict(setting), plain_verdict(setting))

    def test_each_part_alone_and_the_first_of_several(self):
        numbering = Rules([("e", ("h", 2), ("k", (("new", "m"), 1, ("new", "n")))), FIRST])
        bars = {"count": 3, "unruly": 1, "pages": 2, "condition": BOTH, "plan": TURNED, "reading": "each",
                "making": "number", "rules": numbering}
        self.assertEqual(verdict(Setting(**bars)), ("bars", "copies", ((0, 1), (1, 2))))
        self.assertEqual(verdict(Setting(3, 2, 2, 1, 2)), ("bars", "copies", ((0, 1), (1, 2))))
        del bars["unruly"]
        self.assertEqual(verdict(Setting(**bars)), ("bars", "plan", (False, (False,))))
        self.assertEqual(outcome(TURNED, (False, (False,))), "fault")
        self.assertEqual(verdict(Setting(condition=BOTH, plan=TURNED)), ("bars", "plan", (False, (False,))))
        del bars["plan"]
        reading = ("bars", "reading", ((True, (None,)), (False, (True,)), 1))
        self.assertEqual(verdict(Setting(**bars)), reading)
        self.assertEqual(verdict(Setting(condition=BOTH, reading="each")), reading)
        del bars["reading"]
        self.assertEqual(verdict(Setting(**bars)), ("bars", "making", ("e", "m")))
        self.assertEqual(verdict(Setting(making="number", rules=Rules([FIRST]))), ("bars", "making", ("f", "n")))
        del bars["making"]
        self.assertEqual(verdict(Setting(**bars)), ("plain",))
        self.assertEqual(verdict(Setting(5, 3, 4, 1, 2)), ("plain",))

    def test_rules_that_do_not_vary(self):
        rules = Rules([("f", ("base", ("a",)), ("h", (("new", "n"),))), ("g", ("h", 1), ("k", (0, ("new", "m"))))])
        self.assertEqual(verdict(Setting(making="number", rules=rules)), ("plain",))
        unreached = Rules([("g", ("h", 2), ("k", (0, ("new", "m"))))])
        self.assertEqual(verdict(Setting(making="number", rules=unreached)), ("plain",))
        moved = Rules([("f", ("base", ("a",)), ("h", (0,))), ("g", ("h", 1), ("k", (("new", "n"), ("new", "m"))))])
        self.assertEqual(verdict(Setting(making="number", rules=moved)), ("plain",))

    def test_numbered_rows_are_alike_for_all_readers_just_if_none_varies(self):
        rng = random.Random(211)
        seen = {False: 0, True: 0}
        names = ("a", "b", "c", "dd")
        for _ in range(250):
            told = some_ending(rng, fresh=0.5)
            rules = Rules(told)
            deeds = [(1 + at, "add", name, 0) for at, name in enumerate(names)]
            deeds += [(10 + key, "put", key, tuple((name, 10 * key + at) for at, name in enumerate(names)))
                      for key in range(3)]
            shown = [sorted(numbered(rules, Past(deeds), 99, keys), key=repr) for keys in permutations(range(3))]
            alike = all(rows == shown[0] for rows in shown)
            self.assertIs(is_plain(Setting(making="number", rules=rules)), alike)
            seen[alike] += 1
        self.assertGreater(min(seen.values()), 50)


class Varying(unittest.TestCase):
    def test_beside_spreading(self):
        rng = random.Random(212)
        endless = 0
        for _ in range(1000):
            told = some_rules(rng)
            widths = tables_of(told)
            plain = plainly_varying(told)
            places = [(table, at) for table in widths for at in range(widths[table]) if (table, at) in plain]
            self.assertEqual(varying(Rules(told)), places)
            endless += raised_numbers(told) is None
        self.assertGreater(endless, 100)

    def test_told(self):
        self.assertEqual(varying(Rules([FIRST])), [("h", 0), ("h", 1)])
        self.assertEqual(varying(rules=ENDLESS), [("h", 0), ("h", 1)])
        self.assertEqual(varying(Rules()), [])
        rules = Rules([("x", ("m", 1), ("k", (0, 0))), ("f", ("base", ("a", "b")), ("h", (("new", "n"), ("new", "n")))),
                       ("g", ("h", 2), ("k", (1, 0))), ("e", ("base", ("c",)), ("k", (("new", "n"), 0)))])
        self.assertEqual(varying(rules), [("k", 0), ("k", 1)])
        varying(rules).clear()
        self.assertEqual(len(varying(rules)), 2)


if __name__ == "__main__":
    unittest.main()
