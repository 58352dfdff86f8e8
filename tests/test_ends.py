import random
import unittest

from plainstore.ends import accepts_ends, arrows, ends, ends_paper, greatest_depth, most_rows, numbers, reached
from plainstore.errors import NoCount, NoRules, TooMany
from plainstore.rules import Rules, invented, one_row
from plainstore.pasts import Past
from tests.inventions import (
    arrows_of, depth_of, is_base, raised_numbers, reached_tables, rows_of_all, rows_of_one, some_ending, some_rules,
    tables_of,
)
from tests.kinds import odd_values, raised

FIRST = ("f", ("base", ("a",)), ("h", (0, ("new", "n"))))
ENDING = Rules([FIRST, ("e", ("h", 2), ("k", (0,))), ("x", ("m", 1), ("m", (0,)))])
# h hands its second value on to k, which hands it back and makes a new one of it.
RINGED = Rules([FIRST, ("e", ("h", 2), ("k", (1, 0))), ("g", ("k", 2), ("h", (1, ("new", "m")))),
                ("s", ("k", 2), ("k", (1, 0))), ("x", ("m", 1), ("k", (0, ("new", "n"))))])


def is_name(value):
    return value.__class__ is str


def is_number(value):
    return value.__class__ is int


def is_listed(value):
    return value.__class__ in (list, tuple)


def is_tuple(value, size):
    return value.__class__ is tuple and len(value) == size


def goes_on(rules, base, names):
    """The table of the head of the last one of a base rule and rules behind it, or None."""
    by_names = {rule[0]: rule for rule in rules}
    if not is_name(base) or base not in by_names or not is_base(by_names[base]):
        return None
    table = by_names[base][2][0]
    for name in names:
        if not is_name(name) or name not in by_names or is_base(by_names[name]) or by_names[name][1][0] != table:
            return None
        table = by_names[name][2][0]
    return table


def judged_ring(rules, base, way, ring):
    if not is_listed(way) or not is_listed(ring) or not ring or not all(is_tuple(row, 3) for row in ring):
        return False
    table = goes_on(rules, base, way)
    if table is None or goes_on(rules, base, list(way) + [row[0] for row in ring]) != table:
        return False
    by_names = {rule[0]: rule for rule in rules}
    words = []
    for row, after in zip(ring, list(ring[1:]) + [ring[0]]):
        if not is_number(row[1]) or not is_number(row[2]) or not is_number(after[1]) or row[2] != after[1]:
            return False
        words += [arrow[2] for arrow in arrows_of(by_names[row[0]]) if arrow[:2] == row[1:]]
    return len(words) == len(ring) and "making" in words


def judged_pairs(rules, pairs):
    widths = tables_of(rules)
    told = {}
    if not is_listed(pairs):
        return False
    for pair in pairs:
        if not is_tuple(pair, 2) or not is_tuple(pair[0], 2) or not is_number(pair[1]) or pair[1] < 0:
            return False
        table, at = pair[0]
        if not is_name(table) or table not in widths or not is_number(at) or not 0 <= at < widths[table]:
            return False
        if pair[0] in told:
            return False
        told[pair[0]] = pair[1]
    tables = {table for table, _ in told}
    for table in tables:
        if not all((table, at) in told for at in range(widths[table])):
            return False
    for rule in rules:
        if is_base(rule) or rule[1][0] in tables:
            if rule[2][0] not in tables:
                return False
            for at, entry in enumerate(rule[2][1]):
                if not isinstance(entry, int) and told[(rule[2][0], at)] < 1:
                    return False
            for start, end, word in [] if is_base(rule) else arrows_of(rule):
                if told[(rule[2][0], end)] < told[(rule[1][0], start)] + (word == "making"):
                    return False
    return True


def judged(rules, paper):
    if not isinstance(paper, tuple) or not paper or not is_name(paper[0]):
        return False
    if paper[0] == "ends":
        return len(paper) == 2 and judged_pairs(rules, paper[1])
    return paper[0] == "ring" and len(paper) == 4 and judged_ring(rules, *paper[1:])


def bent_papers(rng, rules, paper, many):
    """Papers that are unlike a right one at some places."""
    odd = [0, 1, 2, 3, True, None, "f", "g", "h", "k", "x", -1, ("h", 0), ("h", 1), [], ("e", 0, 1), ("g", 0, 0), 1.0]
    odd += [rule[0] for rule in rules]

    def bent(value):
        if rng.random() < 0.2 or not isinstance(value, (list, tuple)) or not value:
            return rng.choice(odd)
        listed = list(value)
        at = rng.randrange(len(listed))
        way = rng.randrange(6)
        if way == 0:
            del listed[at]
        elif way == 1:
            listed.insert(at, rng.choice(listed))
        elif way == 2:
            rng.shuffle(listed)
        elif way == 3 and isinstance(listed[at], int):
            listed[at] += rng.choice((-1, 1))
        else:
            listed[at] = bent(listed[at])
        return value.__class__(listed) if rng.random() < 0.97 else rng.choice((list, tuple))(listed)

    for _ in range(many):
        told = bent(paper)
        yield told if rng.random() < 0.7 else bent(told)


class Arrows(unittest.TestCase):
    def test_beside_raising_numbers(self):
        rng = random.Random(180)
        seen = {False: 0, True: 0}
        for _ in range(1500):
            told = some_rules(rng)
            rules = Rules(told)
            tables = reached_tables(told)
            self.assertEqual(reached(rules), [table for table in tables_of(told) if table in tables])
            plain = [(rule[0], *arrow) for rule in told if not is_base(rule) and rule[1][0] in tables
                     for arrow in arrows_of(rule)]
            self.assertEqual(arrows(rules), plain)
            high = raised_numbers(told)
            self.assertIs(ends(rules), high is not None)
            self.assertEqual(numbers(rules), high)
            if high is None:
                self.assertIs(greatest_depth(rules), None)
            else:
                self.assertEqual(list(numbers(rules)), list(high))
                self.assertEqual(greatest_depth(rules), max(high.values(), default=0))
            seen[high is None] += 1
        self.assertGreater(min(seen.values()), 200)

    def test_told(self):
        self.assertEqual((reached(ENDING), ends(ENDING), greatest_depth(ENDING)), (["h", "k"], True, 1))
        self.assertEqual(numbers(ENDING), {("h", 0): 0, ("h", 1): 1, ("k", 0): 0})
        self.assertEqual(arrows(ENDING), [("e", 0, 0, "move")])
        self.assertEqual((ends(rules=RINGED), numbers(rules=RINGED), greatest_depth(rules=RINGED)), (False, None, None))
        self.assertEqual(arrows(RINGED), [
            ("e", 0, 1, "move"), ("e", 1, 0, "move"), ("g", 1, 0, "move"), ("g", 1, 1, "making"), ("s", 0, 1, "move"),
            ("s", 1, 0, "move"),
        ])
        for rules in (Rules(), Rules([("e", ("h", 2), ("h", (1, ("new", "n"))))])):
            self.assertEqual((reached(rules), arrows(rules), numbers(rules), greatest_depth(rules)), ([], [], {}, 0))
            self.assertIs(ends(rules), True)

    def test_without_a_border_nothing_is_made_of_itself(self):
        rules = Rules([("f", ("base", ("a",)), ("h", (0,))), ("g", ("h", 1), ("h", (("new", "n"),)))])
        self.assertEqual((ends(rules), numbers(rules)), (True, {("h", 0): 1}))
        self.assertEqual(one_row(rules, {"a": 4}), [("h", (4,)), ("h", (("g", "n", ()),))])

    def test_depths_are_reached_and_not_passed(self):
        rng = random.Random(181)
        for _ in range(400):
            told = some_ending(rng)
            high = raised_numbers(told)
            names = Rules(told).column_names()
            for table, entries in rows_of_one(told, {name: at for at, name in enumerate(names)}):
                for at, value in enumerate(entries):
                    self.assertLessEqual(depth_of(value), high[(table, at)])

    def test_ends_just_if_no_past_makes_rows_without_end(self):
        rng = random.Random(182)
        for _ in range(300):
            told = some_rules(rng)
            rules = Rules(told)
            values = {name: at for at, name in enumerate(rules.column_names())}
            if ends(rules):
                self.assertEqual(one_row(rules, values), rows_of_one(told, values))
            else:
                raised(self, TooMany, 2000, one_row, rules, values)


class Papers(unittest.TestCase):
    def test_told_ones_are_right(self):
        rng = random.Random(183)
        for _ in range(500):
            told = some_rules(rng)
            paper = ends_paper(Rules(told))
            self.assertEqual(paper[0], "ends" if raised_numbers(told) is not None else "ring")
            self.assertTrue(judged(told, paper))
            self.assertIs(accepts_ends(Rules(told), paper), True)
            if paper[0] == "ends":
                self.assertEqual(paper, ("ends", list(raised_numbers(told).items())))

    def test_bent_ones_beside_a_judge(self):
        rng = random.Random(184)
        seen = {}
        for _ in range(250):
            told = some_rules(rng)
            rules = Rules(told)
            for paper in bent_papers(rng, told, ends_paper(rules), 60):
                right = judged(told, paper)
                self.assertIs(accepts_ends(rules, paper), right, (told, paper))
                if isinstance(paper, tuple) and paper:
                    seen[(str(paper[0]), right)] = seen.get((str(paper[0]), right), 0) + 1
        for word in ("ends", "ring"):
            self.assertGreater(min(seen[(word, True)], seen[(word, False)]), 20)

    def test_anybodys(self):
        pairs = [(("k", 0), 9), (("h", 1), 4), (("h", 0), 2)]
        self.assertIs(accepts_ends(ENDING, ("ends", tuple(pairs))), True)
        self.assertIs(accepts_ends(paper=("ends", pairs + [(("m", 0), 0)]), rules=ENDING), True)
        for bent in (pairs[1:], pairs + pairs[:1], pairs + [(("n", 0), 0)], pairs + [(("k", 1), 9)],
                     [(("k", 0), 1)] + pairs[1:], [pairs[0], (("h", 1), 0), pairs[2]], pairs[:2] + [(("h", 0), True)],
                     pairs + [(("m", 0), -1)]):
            self.assertIs(accepts_ends(ENDING, ("ends", bent)), False)
        self.assertIs(accepts_ends(Rules(), ("ends", [])), True)
        self.assertIs(accepts_ends(Rules(), ("ends", ())), True)
        ring = [("g", 1, 1), ("e", 1, 0), ("s", 0, 1)]
        for paper in (("ring", "f", ["e"], ring), ("ring", "f", ("e", "s", "s"), tuple(ring)),
                      ("ring", "f", [], [("e", 1, 0), ("s", 0, 1), ("g", 1, 1)]),
                      ("ring", "f", ["e"], ring * 2)):
            self.assertIs(accepts_ends(RINGED, paper), True)
        for paper in (("ring", "f", [], ring), ("ring", "e", [], ring), ("ring", "f", ["e", "e"], ring),
                      ("ring", "f", ["e"], []), ("ring", "f", ["e"], ring[:2]),
                      ("ring", "f", ["e"], ring[1:] + ring[:1]), ("ring", "f", ["e"], [("s", 0, 1), ("s", 1, 0)]),
                      ("ring", "f", ["e"], [list(row) for row in ring]), ("ring", "f", ["f"], ring),
                      ("ring", "f", ["e"], [("g", 1, True)] + ring[1:]), ("ring", "f", "e", ring), ("ring", "f", ["e"]),
                      ["ring", "f", ["e"], ring], ("ring", "x", [], [("g", 1, 1), ("e", 1, 0), ("s", 0, 1)])):
            self.assertIs(accepts_ends(RINGED, paper), False)

    def test_no_papers(self):
        for rules, paper in ((ENDING, ends_paper(ENDING)), (RINGED, ends_paper(RINGED))):
            for value in odd_values():
                self.assertIs(accepts_ends(rules, value), False)
                for place in range(len(paper)):
                    bent = paper[:place] + (value,) + paper[place + 1:]
                    self.assertIs(accepts_ends(rules, bent), False)

    def test_told_lists_may_be_changed(self):
        for rules in (ENDING, RINGED):
            told = ends_paper(rules)
            ends_paper(rules)[-1].clear()
            self.assertEqual(ends_paper(rules), told)
        numbers(ENDING).clear()
        arrows(ENDING).clear()
        reached(ENDING).clear()
        self.assertEqual((len(numbers(ENDING)), len(arrows(ENDING)), len(reached(ENDING))), (3, 1, 2))


def unlike_rows(names, count):
    """The rows of so many keys, all values unlike."""
    values = iter(range(100))
    return {key: {name: next(values) for name in names} for key in range(count)}


class MostRows(unittest.TestCase):
    def test_beside_unlike_values(self):
        rng = random.Random(185)
        seen = set()
        for _ in range(250):
            told = some_ending(rng, fresh=0.4)
            rules = Rules(told)
            names = rules.column_names()
            for count in (0, 1, 2, 7, 10):
                plain = len(rows_of_all(told, unlike_rows(names, count), range(count)))
                self.assertEqual(most_rows(rules, count), plain)
                seen.add(plain)
                if plain:
                    self.assertEqual(most_rows(rules, count, most=plain), plain)
                if plain > 1:
                    raised(self, TooMany, plain - 1, most_rows, rules, count, most=plain - 1)
        self.assertGreater(max(seen), 20)

    def test_reached_by_a_past_and_never_passed(self):
        rng = random.Random(186)
        for _ in range(150):
            told = some_ending(rng, fresh=0.4)
            rules = Rules(told)
            names = rules.column_names()
            adds = [(1 + at, "add", name, 0) for at, name in enumerate(names)]
            count = rng.randrange(11)
            unlike = [(10 + key, "put", key, tuple(row.items())) for key, row in unlike_rows(names, count).items()]
            self.assertEqual(len(invented(rules, Past(adds + unlike), 99)), most_rows(rules, count))
            alike = [(10 + key, "put", key, tuple((name, rng.randrange(3)) for name in names)) for key in range(count)]
            some = rng.sample(adds, rng.randrange(len(adds) + 1))
            self.assertLessEqual(len(invented(rules, Past(some + alike), 99)), most_rows(rules, count))

    def test_told(self):
        self.assertEqual([most_rows(ENDING, count) for count in (0, 1, 10)], [0, 2, 20])
        inner = Rules([FIRST, ("g", ("h", 2), ("k", (("new", "n"), ("new", "m"))))])
        self.assertEqual([most_rows(inner, count) for count in (0, 1, 10)], [0, 2, 11])
        self.assertEqual(most_rows(most=11, count=10, rules=inner), 11)
        self.assertEqual(most_rows(Rules(), 10), 0)

    def test_refusals(self):
        five = Rules([("f", ("base", ("a", "b", "c")), ("h", (0,))), ("g", ("base", ("d", "e")), ("h", (0,)))])
        for value in odd_values() + [11]:
            raised(self, NoCount, value, most_rows, RINGED, value, most=None)
            raised(self, NoCount, value, most_rows, count=value, rules=ENDING)
        for value in odd_values() + [0]:
            raised(self, NoRules, None, most_rows, RINGED, 3, most=value)
            raised(self, NoRules, None, most_rows, five, 0, most=value)
            if repr(value) != repr(10 ** 30):
                raised(self, NoCount, value, most_rows, ENDING, 3, most=value)
                raised(self, NoCount, value, most_rows, ENDING, 0, most=value)
        raised(self, TooMany, 5, most_rows, ENDING, 3, most=5)
        raised(self, TooMany, 1, most_rows, ENDING, 1, most=1)
        self.assertEqual((most_rows(ENDING, 3, most=6), most_rows(ENDING, 0, most=1)), (6, 0))
        self.assertRaises(TypeError, most_rows, ENDING, 3, 2000)

    def test_no_rules(self):
        for value in odd_values() + [[FIRST]]:
            for call in (reached, arrows, ends, numbers, greatest_depth, ends_paper):
                raised(self, NoRules, value, call, value)
                raised(self, NoRules, value, call, rules=value)
            raised(self, NoRules, value, accepts_ends, value, None)
            raised(self, NoRules, value, most_rows, value, None, most=None)


if __name__ == "__main__":
    unittest.main()
