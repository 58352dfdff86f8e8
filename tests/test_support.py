import random
import unittest
from itertools import product

from plainstore.changes import changed, shown
from plainstore.conditions import run
from plainstore.deciders import deciders_of
from plainstore.errors import NoChange, NoCount, NoMoment, NoPast, NoQuestion, NoRules, NoTold, TooMany
from plainstore.pasts import Past
from plainstore.plain import ask, row_at
from plainstore.rules import Rules, invented, one_row
from plainstore.stories import cells_at
from plainstore.support import accepts_sure, album, brought, inner, support, sure_paper, surely
from tests.inventions import (
    has_value, head_of, is_base, plain_album, rows_at, rows_of_all, rows_of_one, some_ending, some_rules, tables_of,
)
from tests.kinds import odd_values, raised
from tests.reckon import NAMES, behind, some_deed, some_pasts
from tests.somes import some_condition

FIRST = ("f", ("base", ("a", "b")), ("h", (0, 1, ("new", "n"))))
RULES = Rules([FIRST, ("g", ("h", 3), ("k", (2, 1))), ("i", ("h", 3), ("k", (("new", "m"), ("new", "m")))),
               ("e", ("base", ("c",)), ("k", (0, 0)))])
PAST = Past([(1, "add", "a", 1), (2, "add", "b", 2), (3, "put", 4, ()), (4, "put", 1, (("a", 3),)), (5, "put", 0, ())])
ENDLESS = Rules([("f", ("base", ("a",)), ("h", (0,))), ("g", ("h", 1), ("k", (0, ("new", "n")))),
                 ("e", ("k", 2), ("k", (1, ("new", "n"))))])


def some_change(rng, deeds):
    if deeds and rng.random() < 0.5:
        return ("out", rng.choice(deeds)[0])
    moments = {deed[0] for deed in deeds}
    free = [moment for moment in range(1, 80) if moment not in moments]
    return ("in", some_deed(rng, rng.choice(free)))


def some_told(rng, rules):
    """Columns that are present, and values of some of them."""
    names = sorted({name for rule in rules if is_base(rule) for name in rule[1][1]} | {"zz"})
    present = rng.sample(names, rng.randrange(len(names) + 1)) if rng.random() < 0.5 else rng.sample(names, len(names))
    known = {name: rng.randrange(3) for name in present if rng.random() < 0.4}
    return present, known


def some_question(rng, rules):
    widths = tables_of(rules)
    table = rng.choice(sorted(widths))
    return (table, tuple(rng.choice((0, 1, 2, ("mark", 1), ("mark", 1), ("mark", 9))) for _ in range(widths[table])))


def answers(row, question):
    """Whether a row has the asked values, and alike ones at alike marks."""
    if row[0] != question[0]:
        return False
    marks = {}
    for entry, asked in zip(row[1], question[1]):
        if isinstance(asked, int):
            if entry != asked:
                return False
        elif marks.setdefault(asked, entry) != entry:
            return False
    return True


class Supports(unittest.TestCase):
    def test_beside_one_row_alone(self):
        rng = random.Random(190)
        pasts = [deeds for deeds in some_pasts(190, 40) if len(deeds) > 4]
        several = 0
        for _ in range(250):
            told, deeds = some_ending(rng, names=NAMES), rng.choice(pasts)
            rules, past, t = Rules(told), Past(deeds), rng.choice((999, rng.choice(deeds)[0]))
            rows = rows_at(deeds, t)
            plain = rows_of_all(told, rows, sorted(rows))
            alone = {key: rows_of_one(told, rows[key]) for key in rows}
            found = support(rules, past, t)
            self.assertEqual(list(found), plain)
            self.assertEqual(list(found), invented(rules, past, t))
            for row in plain:
                self.assertEqual(found[row], tuple(key for key in sorted(rows) if row in alone[key]))
                several += len(found[row]) > 1
            if len(plain) > 1:
                raised(self, TooMany, len(plain) - 1, support, rules, past, t, most=len(plain) - 1)
                self.assertEqual(len(support(rules, past, t, most=len(plain))), len(plain))
        self.assertGreater(several, 50)

    def test_told(self):
        one, other = ("f", "n", (1, 2)), ("f", "n", (3, 2))
        mark = ("i", "m", ())
        self.assertEqual(list(support(RULES, PAST, 5).items()), [
            (("h", (1, 2, one)), (0, 4)), (("k", (one, 2)), (0, 4)), (("k", (mark, mark)), (0, 1, 4)),
            (("h", (3, 2, other)), (1,)), (("k", (other, 2)), (1,)),
        ])
        self.assertEqual(support(t=2, past=PAST, rules=RULES), {})

    def test_brought_beside_two_tables(self):
        rng = random.Random(191)
        pasts = [deeds for deeds in some_pasts(191, 80) if len(deeds) > 4]
        moved, both = 0, 0
        for _ in range(700):
            told, deeds = some_ending(rng, names=NAMES), rng.choice(pasts)
            rules, change, t = Rules(told), some_change(rng, deeds), rng.choice((999, 999, rng.randrange(80)))
            sides = [rows_at(side, t) for side in (deeds, behind(deeds, change))]
            before, after = [rows_of_all(told, rows, sorted(rows)) for rows in sides]
            gone, come = [row for row in before if row not in after], [row for row in after if row not in before]
            self.assertEqual(brought(rules, Past(deeds), change, t), (gone, come))
            moved += bool(gone or come)
            both += bool(gone and come)
            most = max(len(before), len(after))
            if most > 1:
                raised(self, TooMany, most - 1, brought, rules, Past(deeds), change, t, most=most - 1)
                self.assertEqual(brought(rules, Past(deeds), change, t, most=most), (gone, come))
        self.assertGreater(min(moved, 6 * both), 40)

    def test_brought_of_more_than_sixty_deeds(self):
        deeds = [(moment, "strike", 9) for moment in range(1, 60)] + [(70, "add", "c", 4)]
        rules = Rules([("e", ("base", ("c",)), ("k", (0, 0)))])
        self.assertEqual(brought(rules, Past(deeds), ("in", (71, "put", 2, ())), 71), ([], [("k", (4, 4))]))
        self.assertEqual(brought(t=70, change=("in", (71, "put", 2, ())), past=Past(deeds), rules=rules), ([], []))
        self.assertEqual(brought(RULES, PAST, ("out", 4), 5)[0][0], ("h", (3, 2, ("f", "n", (3, 2)))))

    def test_where_a_change_shows_no_line(self):
        rng = random.Random(192)
        checked = 0
        for deeds in [deeds for deeds in some_pasts(192, 60) if deeds]:
            change = some_change(rng, deeds)
            past = Past(deeds)
            lines = shown(past, change)
            rules = Rules(some_ending(rng, names=NAMES))
            for t in {0, 999} | {deed[0] for deed in deeds}:
                if not any(first <= t <= last for pairs in lines.values() for first, last in pairs):
                    checked += 1
                    self.assertEqual(brought(rules, past, change, t), ([], []))
                    if len(deeds) < 60:
                        self.assertEqual(invented(rules, changed(past, change), t), invented(rules, past, t))
        self.assertGreater(checked, 60)


class Deciders(unittest.TestCase):
    def test_a_keys_deciders_alone_and_any_more_tell_the_same(self):
        rng = random.Random(193)
        for deeds in [deeds for deeds in some_pasts(193, 50) if deeds]:
            past = Past(deeds)
            t, key = rng.choice((999, rng.choice(deeds)[0])), rng.randrange(3)
            needed = deciders_of(past, key, t)
            known = [deed for deed in deeds if deed[0] <= t]
            rules, condition = Rules(some_ending(rng, names=NAMES)), some_condition(rng)
            for some in (needed, needed + [deed for deed in known if deed not in needed and rng.random() < 0.5], known):
                less = Past(some)
                for name in NAMES:
                    self.assertEqual(ask(less, key, name, t), ask(past, key, name, t))
                self.assertEqual(cells_at(less, key, t), cells_at(past, key, t))
                self.assertEqual(run(condition, less, key, t), run(condition, past, key, t))
                rows = [{} if row is None else row for row in (row_at(less, key, t), row_at(past, key, t))]
                self.assertEqual(one_row(rules, rows[0]), one_row(rules, rows[1]))
                made = [[row for row, keys in support(rules, side, t).items() if key in keys] for side in (less, past)]
                self.assertEqual(sorted(map(repr, made[0])), sorted(map(repr, made[1])))


class Inner(unittest.TestCase):
    def test_beside_rows_of_names(self):
        rng = random.Random(194)
        found = 0
        for _ in range(500):
            told = some_ending(rng, fresh=0.6)
            present, _ = some_told(rng, told)
            rows = rows_of_one(told, {name: name for name in present})
            plain = [row for row in rows if not any(has_value(value) for value in row[1])]
            self.assertEqual(inner(Rules(told), tuple(present)), plain)
            found += len(plain)
            values = {name: rng.randrange(2) for name in present}
            rest = [row for row in one_row(Rules(told), values) if not any(has_value(value) for value in row[1])]
            self.assertEqual(rest, plain)
            if len(rows) > 1:
                raised(self, TooMany, len(rows) - 1, inner, Rules(told), present, most=len(rows) - 1)
                self.assertEqual(inner(Rules(told), present, most=len(rows)), plain)
        self.assertGreater(found, 100)

    def test_told(self):
        mark = ("i", "m", ())
        self.assertEqual(inner(RULES, ["b", "a"]), [("k", (mark, mark))])
        self.assertEqual(inner(present=("a",), rules=RULES), [])
        raised(self, TooMany, 2000, inner, ENDLESS, ["a"])
        raised(self, TooMany, 7, inner, ENDLESS, ["a"], most=7)
        self.assertEqual(inner(ENDLESS, ["b"]), [])


class Surely(unittest.TestCase):
    def test_albums_in_the_order_of_coming(self):
        rng = random.Random(195)
        sizes = set()
        for _ in range(600):
            told = some_rules(rng)
            present, known = some_told(rng, told)
            plain = plain_album(told, present, known)
            self.assertEqual(album(Rules(told), present, known), plain)
            sizes.add(len(plain))
        self.assertGreater(max(sizes), 8)

    def test_beside_many_values_of_what_is_not_known(self):
        rng = random.Random(196)
        seen = {False: 0, True: 0}
        for _ in range(900):
            told = some_ending(rng, names=NAMES[:3])
            rules = Rules(told)
            present, known = some_told(rng, told)
            question = some_question(rng, told)
            open_ones = [name for name in present if name not in known]
            spread = [dict(zip(open_ones, [50 + at for at in range(len(open_ones))]))]
            spread += [dict(zip(open_ones, values)) for values in product((0, 1, 2, 60), repeat=len(open_ones))][:64]
            plain = all(any(answers(row, question) for row in one_row(rules, {**known, **values})) for values in spread)
            self.assertIs(surely(rules, present, known, question), plain)
            paper = sure_paper(rules, present, known, question)
            self.assertEqual(paper[:4], ("sure" if plain else "open", tuple(present), known, question))
            self.assertIs(accepts_sure(rules, paper), True)
            if not plain:
                self.assertEqual(paper[4:], (album(rules, present, known),))
            seen[plain] += 1
        self.assertGreater(min(seen.values()), 60)

    def test_rules_without_end(self):
        self.assertEqual(album(ENDLESS, ["a"], {}), [
            ("h", (("column", "a"),)), ("k", (("column", "a"), ("made", 1))), ("k", (("made", 1), ("made", 2))),
        ])
        self.assertIs(surely(ENDLESS, ["a"], {"a": 3}, ("k", (3, ("mark", 1)))), True)
        self.assertIs(surely(ENDLESS, ["a"], {"a": 3}, ("k", (("mark", 1), ("mark", 1)))), False)

    def test_told(self):
        known = {"b": 2}
        self.assertEqual(album(RULES, ["a", "b"], known), [
            ("h", (("column", "a"), ("value", 2), ("made", 1))), ("k", (("made", 1), ("value", 2))),
            ("k", (("made", 1), ("made", 1))),
        ])
        self.assertEqual(album(known={}, present=("c",), rules=RULES), [("k", (("column", "c"), ("column", "c")))])
        question = ("k", (("mark", 3), 2))
        self.assertEqual(sure_paper(RULES, ["b", "a"], known, question),
                         ("sure", ("b", "a"), known, question, "f", ["g"]))
        self.assertIs(surely(question=question, known=known, present=["a", "b"], rules=RULES), True)
        self.assertIs(surely(RULES, ["a"], {}, question), False)
        self.assertEqual(sure_paper(RULES, ["a"], {}, question), ("open", ("a",), {}, question, []))
        self.assertIs(surely(RULES, ["a", "b"], {}, ("k", (("mark", 1), ("mark", 1)))), True)
        self.assertIs(surely(RULES, ["a", "b"], {"a": 2, "b": 2}, ("h", (("mark", 1), ("mark", 1), ("mark", 2)))), True)
        self.assertIs(surely(RULES, ["a", "b"], {"a": 2}, ("h", (("mark", 1), ("mark", 1), ("mark", 2)))), False)


def named(cells):
    """Entries of a picture where made values are numbered as they come."""
    seen = []
    told = []
    for cell in cells:
        if cell[0] not in ("value", "column"):
            seen += [] if cell in seen else [cell]
            cell = ("made", 1 + seen.index(cell))
        told.append(cell)
    return tuple(told)


def first_picture(rule, known):
    cells = [("value", known[name]) if name in known else ("column", name) for name in rule[1][1]]
    table, made = head_of(rule, cells)
    return (table, named(made))


def picture_behind(rule, picture):
    table, made = head_of(rule, list(picture[1]))
    return (table, named(made))


def does_answer(picture, question):
    cells = tuple(cell[1] if cell[0] == "value" else cell for cell in picture[1])
    return answers((picture[0], cells), question)


def is_picture(rules, present, known, value):
    widths = tables_of(rules)
    if value.__class__ is not tuple or len(value) != 2 or value[0].__class__ is not str or value[0] not in widths:
        return False
    if value[1].__class__ is not tuple or len(value[1]) != widths[value[0]]:
        return False
    for cell in value[1]:
        if cell.__class__ is not tuple or len(cell) != 2 or cell[0] not in ("value", "column", "made"):
            return False
        right = {
            "value": cell[1].__class__ is int and 0 <= cell[1] < 100,
            "column": cell[1].__class__ is str and cell[1] in present and cell[1] not in known,
            "made": cell[1].__class__ is int,
        }
        if not right[cell[0]]:
            return False
    return named(value[1]) == value[1]


def judged_sure(rules, paper):
    """Whether a paper is right by the words of the document; its first four parts are."""
    word, present, known, question, *parts = paper
    by_names = {rule[0]: rule for rule in rules}
    bases = [rule for rule in rules if is_base(rule) and set(rule[1][1]) <= set(present)]
    if word == "sure":
        if len(parts) != 2 or parts[1].__class__ not in (list, tuple):
            return False
        names = [parts[0], *parts[1]]
        if not all(name.__class__ is str and name in by_names for name in names) or by_names[names[0]] not in bases:
            return False
        picture = first_picture(by_names[names[0]], known)
        for name in names[1:]:
            if is_base(by_names[name]) or by_names[name][1][0] != picture[0]:
                return False
            picture = picture_behind(by_names[name], picture)
        return does_answer(picture, question)
    if word != "open" or len(parts) != 1 or parts[0].__class__ not in (list, tuple):
        return False
    if not all(is_picture(rules, present, known, picture) for picture in parts[0]):
        return False
    needed = [first_picture(rule, known) for rule in bases]
    needed += [picture_behind(rule, picture) for picture in parts[0] for rule in rules
               if not is_base(rule) and rule[1][0] == picture[0]]
    return all(picture in parts[0] for picture in needed) and not any(does_answer(p, question) for p in parts[0])


def bent(rng, rules, value, odd):
    """A part of a paper that is unlike at one place."""
    if not isinstance(value, (list, tuple)) or not value or rng.random() < 0.15:
        return rng.choice(odd)
    listed = list(value)
    at = rng.randrange(len(listed))
    way = rng.randrange(6)
    if way == 0:
        del listed[at]
    elif way == 1:
        listed.insert(at, rng.choice(listed))
    elif way == 2:
        listed.insert(at, rng.choice(odd))
    elif way == 3 and isinstance(listed[at], int):
        listed[at] += rng.choice((-1, 1))
    else:
        listed[at] = bent(rng, rules, listed[at], odd)
    return value.__class__(listed)


class Papers(unittest.TestCase):
    def test_bent_ones_beside_a_judge(self):
        rng = random.Random(197)
        seen = {}
        for _ in range(700):
            told = some_rules(rng)
            rules = Rules(told)
            present, known = some_told(rng, told)
            paper = sure_paper(rules, present, known, some_question(rng, told))
            odd = [rule[0] for rule in told] + [0, 1, True, None, ("made", 1), ("made", 2), ("value", 1),
                                                ("column", "a")]
            odd += [(table, (("value", 7),) * width) for table, width in tables_of(told).items()]
            odd += [(table, (("made", True),) * width) for table, width in tables_of(told).items()]
            for _ in range(15):
                parts = [bent(rng, told, part, odd) if rng.random() < 0.6 else part for part in paper[4:]]
                other = paper[:4] + tuple(parts)
                right = judged_sure(told, other)
                self.assertIs(accepts_sure(rules, other), right, (told, other))
                seen[(paper[0], right)] = seen.get((paper[0], right), 0) + 1
        self.assertGreater(min(seen.values()), 200)
        self.assertEqual(len(seen), 4)

    def test_open_ones_may_have_more(self):
        question = ("k", (9, 9))
        paper = sure_paper(RULES, ["c"], {"c": 3}, question)
        self.assertEqual(paper, ("open", ("c",), {"c": 3}, question, [("k", (("value", 3), ("value", 3)))]))
        more = paper[4] + [("k", (("made", 1), ("made", 2))), ("k", (("value", 3), ("value", 99)))]
        self.assertIs(accepts_sure(RULES, paper[:4] + (tuple(more),)), True)
        self.assertIs(accepts_sure(RULES, paper[:4] + (more + more,)), True)
        for value in (("k", (("value", 3), ("made", 2))), ("k", (("made", 2), ("made", 1))),
                      ("k", (("value", 9), ("value", 9))), ("k", (("column", "c"),) * 2), ("k", (("column", "a"),) * 2),
                      ("k", (("value", 3),)), ["k", (("value", 3),) * 2], ("x", ()), ("k", (("value", True),) * 2),
                      ("k", (("value", 100),) * 2), ("h", (("value", 1),) * 3)):
            self.assertIs(accepts_sure(RULES, paper[:4] + (more + [value],)), False)

    def test_the_first_parts(self):
        paper = sure_paper(RULES, ["a", "b"], {"b": 2}, ("k", (("mark", 1), 2)))
        self.assertEqual(paper[4:], ("f", ["g"]))
        self.assertIs(accepts_sure(RULES, ("sure", ["b", "a", "zz"], {"b": 2}, ("k", (("mark", 1), 2)), "f", ("g",))),
                      True)
        self.assertIs(accepts_sure(paper=paper, rules=RULES), True)
        wrong = {
            0: ["open", "Sure"], 1: [("a",), ("a", "b", "b"), ("a", "B"), {"a": 1, "b": 1}, "ab"],
            2: [{}, {"b": 3}, {"c": 2, "b": 2}, {"b": True}, [("b", 2)], {"b": 2, "a": 100}],
            3: [("k", (2, ("mark", 1))), ("k", (("mark", 0), 2)), ("k", (("mark", 10), 2)), ("k", (("mark", True), 2)),
                ("k", [("mark", 1), 2]), ("h", (("mark", 1), 2)), ("m", (1, 2)), ("k", (("mark", 1), True))],
            4: ["e", "g", "x"], 5: [["g", "g"], ["i"], "g", [], {"g": 1}],
        }
        for place, values in wrong.items():
            for value in values + odd_values():
                self.assertIs(accepts_sure(RULES, paper[:place] + (value,) + paper[place + 1:]), False)
        for value in odd_values() + [list(paper), paper[:4], paper[:5], paper + (1,)]:
            self.assertIs(accepts_sure(RULES, value), False)

    def test_what_is_handed_in_or_told_may_be_changed(self):
        present, known = ["a", "b"], {"b": 2}
        for question in (("k", (("mark", 1), 2)), ("k", (5, 5))):
            told = sure_paper(RULES, present, known, question)
            other = sure_paper(RULES, present, known, question)
            other[2]["a"] = 5
            other[-1].append("x")
            album(RULES, present, known).clear()
            self.assertEqual(sure_paper(RULES, present, known, question), told)
            self.assertEqual((present, known), (["a", "b"], {"b": 2}))
        told = sure_paper(RULES, present, known, ("k", (5, 5)))
        present.append("c")
        known["a"] = 1
        self.assertEqual(told[1:3], (("a", "b"), {"b": 2}))
        support(RULES, PAST, 5).clear()
        brought(RULES, PAST, ("out", 1), 5)[0].clear()
        inner(RULES, ["a", "b"]).clear()
        self.assertEqual([len(support(RULES, PAST, 5)), len(brought(RULES, PAST, ("out", 1), 5)[0])], [5, 5])


class Refusals(unittest.TestCase):
    def test_rules_pasts_changes_and_moments(self):
        for value in odd_values() + [[FIRST]]:
            raised(self, NoRules, value, support, value, None, None, most=None)
            raised(self, NoRules, value, brought, value, None, None, None, most=None)
            raised(self, NoRules, value, inner, value, None, most=None)
            raised(self, NoRules, value, album, value, None, None)
            raised(self, NoRules, value, surely, value, None, None, None)
            raised(self, NoRules, value, sure_paper, value, None, None, None)
            raised(self, NoRules, value, accepts_sure, value, None)
            raised(self, NoPast, value, support, RULES, value, None, most=None)
            raised(self, NoPast, value, brought, RULES, value, None, None, most=None)
        for value in odd_values() + [("in", (3, "strike", 1)), ("out", 6), ("out", True), ["out", 3]]:
            raised(self, NoChange, value, brought, RULES, PAST, value, None, most=None)
        for value in odd_values() + [1000]:
            raised(self, NoMoment, value, support, RULES, PAST, value, most=None)
            raised(self, NoMoment, value, brought, RULES, PAST, ("out", 3), value, most=None)

    def test_what_is_told_and_asked(self):
        wrong = [("a", "a"), ["A"], ["a", 1], {"a": 1}, "a", ("abcde",)]
        for value in [value for value in odd_values() if repr(value) not in ("[]", "()")] + wrong:
            raised(self, NoTold, value, inner, RULES, value, most=None)
            raised(self, NoTold, value, album, RULES, value, None)
            raised(self, NoTold, value, surely, RULES, value, None, None)
            raised(self, NoTold, value, sure_paper, known=None, question=None, present=value, rules=RULES)
        wrong = [{"b": 1}, {"a": 100}, {"a": True}, {"a": None}, {1: 1}, [("a", 1)]]
        for value in [value for value in odd_values() if repr(value) != "{}"] + wrong:
            raised(self, NoTold, value, album, RULES, ["a"], value)
            raised(self, NoTold, value, surely, RULES, ["a"], value, None)
            raised(self, NoTold, value, sure_paper, RULES, ("a",), value, None)
        wrong = [("k", (1,)), ("k", [1, 2]), ("x", (1, 2)), ("k", (1, ("mark", 0))), ("k", (1, ("mark", 10))),
                 ("k", (1, ("Mark", 1))), ("k", (1, 100)), ("k", (True, 1)), ["k", (1, 2)], ("k", (1, ("mark", True)))]
        for value in odd_values() + wrong:
            raised(self, NoQuestion, value, surely, RULES, ["a"], {}, value)
            raised(self, NoQuestion, value, sure_paper, RULES, ["a"], {}, value)

    def test_most(self):
        for value in odd_values() + [0]:
            if repr(value) != repr(10 ** 30):
                raised(self, NoCount, value, support, RULES, PAST, 5, most=value)
                raised(self, NoCount, value, brought, RULES, PAST, ("out", 3), 5, most=value)
                raised(self, NoCount, value, inner, ENDLESS, ["a"], most=value)
        past = Past([(1, "add", "a", 1), (2, "put", 0, ())])
        raised(self, TooMany, 2000, support, ENDLESS, past, 2)
        raised(self, TooMany, 2000, brought, ENDLESS, past, ("out", 2), 2)
        raised(self, TooMany, 2000, brought, ENDLESS, Past([(1, "add", "a", 1)]), ("in", (2, "put", 0, ())), 2)
        self.assertEqual(brought(ENDLESS, past, ("out", 2), 1), ([], []))
        for call in (lambda: support(RULES, PAST, 5, 2000), lambda: brought(RULES, PAST, ("out", 3), 5, 2000),
                     lambda: inner(RULES, ["a"], 2000)):
            self.assertRaises(TypeError, call)


if __name__ == "__main__":
    unittest.main()
