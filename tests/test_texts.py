import random
import unittest

from plainstore.errors import BadText, NoName, NoStore
from plainstore.live import Live
from plainstore.pasts import Past
from plainstore.rules import Rules
from plainstore.settings import Setting, verdict
from plainstore.texts import is_written, read, rows_of, write
from tests.arranged import arrangements
from tests.inventions import some_ending
from tests.kinds import odd_values, raised
from tests.living import PlainLive, Refused, some_act
from tests.plainly import lots_of
from tests.reckon import NAMES, some_deeds
from tests.somes import some_condition
from tests.test_live import do
from tests.texting import first_wrong, told_rows

WORDS = ("setting", "condition", "plan", "rule", "deed", "edit", "page")
SETTING = "setting 2 1 1 0 3 one content"
BOTH = ("all", (("row",), ("has", "a"), ("eq", "a", 1)))
LONG = "condition all 6 not not has a any 1 row row less a 0 eq b 99 has b"


def some_store(rng, steps=25):
    """A live store, and the rows of its text."""
    counts = (rng.randrange(1, 4), 1, 1, rng.choice((0, 1)), rng.choice((1, 2, 3, 6)))
    words = (rng.choice(("one", "each")), rng.choice(("content", "number")))
    condition = some_condition(rng, 6)
    plan = rng.choice(arrangements(condition)[:50])[1]
    rules = rng.choice(([], some_ending(rng)))
    deeds = some_deeds(rng, rng.choice((0, 2, 5)), 12, 2)
    setting = Setting(*counts, condition=condition, plan=plan, reading=words[0], making=words[1], rules=Rules(rules))
    live, model = Live(setting, Past(deeds)), PlainLive(counts[0], counts[4], deeds)
    for _ in range(rng.randrange(steps)):
        act = some_act(rng, model)
        try:
            model.do(*act)
        except Refused:
            continue
        do(live, act)
    for number, *_ in model.walks():
        model.do("drop", number)
        live.drop(number)
    return live, told_rows(counts, words, condition, plan, rules, model)


def turned(rng, row):
    """A deed or edit row with its pairs in another order."""
    words = row.split(" ")
    if "put" not in words[2:4]:
        return row
    at = words.index("put") + 2
    pairs = [words[place:place + 2] for place in range(at, len(words), 2)]
    rng.shuffle(pairs)
    return " ".join(words[:at] + [word for pair in pairs for word in pair])


def is_ahead(one, other):
    """Whether a row has to stand ahead of another one, which stands behind it in the written text."""
    first, second = one.split(" "), other.split(" ")
    kinds = ("edit", "undo", "redo")
    if first[0] == "setting" or first[0] == "condition" and second[0] == "plan":
        return True
    if first[0] == second[0] == "rule" or first[0] in kinds and second[0] in kinds:
        return True
    if first[0] == "deed" and second[0] in kinds:
        return True
    return second[0] == "page" and first[0] in kinds + ("deed",)


def shuffled(rng, rows):
    """The rows in another order in which each can stand (pages behind all records)."""
    left = [(at, row) for at, row in enumerate(rows)]
    told = []
    while left:
        free = [(at, row) for at, row in left if not any(is_ahead(other, row) for place, other in left if place < at)]
        choice = rng.choice(free)
        left.remove(choice)
        told.append(turned(rng, choice[1]))
    return told


class Written(unittest.TestCase):
    def test_beside_a_plain_text(self):
        rng = random.Random(230)
        kinds = {}
        for _ in range(120):
            live, rows = some_store(rng)
            self.assertEqual(write(live).split("\n"), rows)
            self.assertEqual(write(live=live), write(live.twin()))
            for word in WORDS:
                firsts = ("edit", "undo", "redo") if word == "edit" else (word,)
                own = [row for row in rows if row.split(" ")[0] in firsts]
                self.assertEqual(rows_of(live, word), own)
                self.assertEqual(rows_of(word=word, live=live), own)
            for row in rows:
                kinds[row.split(" ")[0]] = kinds.get(row.split(" ")[0], 0) + 1
        self.assertEqual(set(kinds), set(WORDS) | {"undo", "redo"})
        self.assertGreater(min(kinds.values()), 5)

    def test_read_again(self):
        rng = random.Random(231)
        for _ in range(100):
            live, rows = some_store(rng)
            text = "\n".join(rows)
            other = read(text)
            self.assertTrue(other == live)
            self.assertEqual((len(other), other.walks(), write(other)), (0, [], text))
            self.assertIs(is_written(text), True)
            self.assertTrue(other.setting() == live.setting())
            self.assertEqual(verdict(other.setting()), verdict(live.setting()))
            for lot in lots_of(live.setting().many):
                self.assertEqual((other.seen(lot), other.lacks(lot)), (live.seen(lot), live.lacks(lot)))
            self.assertEqual([other.ask(0, "a", t) for t in range(15)], [live.ask(0, "a", t) for t in range(15)])
            self.assertEqual(other.invented(999), live.invented(999))
            for word in ("undo", "redo"):
                if live.line()[word == "redo"] and len(live.edits()) < 60:
                    do(live, (word, (0,)))
                    do(other, (word, (0,)))
                    self.assertTrue(other == live)
                    self.assertEqual(write(other), write(live))
            self.assertEqual(other.walk(0, 0, "free"), 0)

    def test_in_any_order_in_which_each_row_can_stand(self):
        rng = random.Random(232)
        unlike = 0
        for _ in range(150):
            live, rows = some_store(rng)
            other = shuffled(rng, rows)
            many = len([row for row in rows if row.split(" ")[0] in ("deed", "edit")])
            if many and rng.random() < 0.5:
                told = {row.rpartition(" ")[0] for row in rows if row.startswith("page")}
                for moment, number, _ in live.records(0):
                    row = f"page 0 {moment} {number}"
                    other += [row + " 0"] if row not in told else []
            text = "\n".join(other)
            self.assertIs(first_wrong(text), None)
            self.assertTrue(read(text) == live)
            self.assertEqual(write(read(text=text)), "\n".join(rows))
            self.assertIs(is_written(text), other == rows)
            unlike += other != rows
        self.assertGreater(unlike, 80)

    def test_told(self):
        live = read(SETTING)
        self.assertTrue(live == Live(Setting(2, 1, 1, 0, 3)))
        self.assertEqual(write(live), SETTING + "\ncondition row\nplan row")
        self.assertIs(is_written(SETTING), False)
        self.assertIs(is_written(text=SETTING + "\ncondition row\nplan row"), True)
        text = "\n".join([SETTING, "rule to table to 2 to base 1 +to 0", "edit 0,1 5 put 3 b 1 a 2", "page 1 5 1 2",
                          LONG, "edit - 5 none", "undo 0", "page 0 5 3 0"])
        live = read(text)
        self.assertEqual(live.setting().rules.all_rules(), [("to", ("to", 2), ("base", (1, ("new", "to"), 0)))])
        self.assertEqual(live.setting().condition, ("all", (
            ("not", ("not", ("has", "a"))), ("any", (("row",),)), ("row",), ("less", "a", 0), ("eq", "b", 99),
            ("has", "b"),
        )))
        self.assertEqual(live.edits(), [((0, 1), ("in", (5, "put", 3, (("a", 2), ("b", 1))))), ((), ("out", 5)),
                                        ((0,), ("in", (5, "put", 3, (("a", 2), ("b", 1)))))])
        self.assertEqual((live.line(), live.page_of(1, 5, 1), live.page_of(0, 5, 1)), (((1,), (2,)), 2, 0))
        self.assertEqual(write(live).split("\n")[1:], [
            LONG, LONG.replace("condition", "plan"), "rule to table to 2 to base 1 +to 0", "edit 0,1 5 put 3 a 2 b 1",
            "edit - 5 none", "undo 0", "page 1 5 1 2",
        ])

    def test_sixty_deeds_and_sixty_edits(self):
        deeds = [f"deed {moment} strike 1" for moment in range(1, 61)]
        text = "\n".join([SETTING] + deeds)
        self.assertEqual(len(read(text).past()), 60)
        raised(self, BadText, 61, read, text + "\ndeed 61 strike 1")
        raised(self, BadText, 61, read, text + "\nedit 0 61 strike 1")
        edits = ["edit 0 60 none", "undo 1", "redo -"] + ["undo 1", "redo -"] * 28 + ["undo 0"]
        full = "\n".join([text] + edits)
        self.assertEqual((len(read(full).edits()), len(read(full).past())), (60, 60))
        for row in ("undo 0", "redo 0", "edit 0 60 none", "edit 0 61 strike 1"):
            raised(self, BadText, 121, read, full + "\n" + row)
        self.assertTrue(read(full + "\npage 0 60 60 2").page_of(0, 60, 60) == 2)
        self.assertEqual(read(full).line(), ((), (1,)))

    def test_what_is_told_may_be_changed(self):
        live = read(SETTING + "\nedit 0 5 strike 1")
        rows_of(live, "edit").clear()
        self.assertEqual(rows_of(live, "edit"), ["edit 0 5 strike 1"])


class Bent(unittest.TestCase):
    def test_in_many_ways_beside_a_judge(self):
        rng = random.Random(233)
        odd = ["0", "1", "2", "3", "6", "7", "9", "10", "60", "99", "100", "999", "1000", "01", "-1", "-", "0,1", "1,0",
               "0,0", "a", "b", "zz", "abcde", "A", "+n", "+", "none", "row", "has", "eq", "not", "all", "any", "base",
               "table", "to", "put", "strike", "one", "each", "", "content", "0,", ",", "5"]
        firsts = ["setting", "condition", "plan", "rule", "deed", "edit", "undo", "redo", "page", "pages", ""]
        seen = {}
        for _ in range(150):
            live, rows = some_store(rng)
            rows = shuffled(rng, rows) if rng.random() < 0.5 else rows
            for _ in range(25):
                other = list(rows)
                for _ in range(rng.choice((1, 1, 2))):
                    self.bend(rng, other, odd, firsts)
                text = "\n".join(other)
                wrong = first_wrong(text)
                if wrong is None:
                    self.assertTrue(is_written(write(read(text))))
                    self.assertIs(is_written(text), write(read(text)) == text)
                else:
                    raised(self, BadText, wrong, read, text)
                    self.assertIs(is_written(text), False)
                word = None if wrong is None else other[wrong].split(" ")[0]
                seen[word] = seen.get(word, 0) + 1
        self.assertGreater(min(seen.get(word, 0) for word in firsts + [None]), 20)

    def bend(self, rng, rows, odd, firsts):
        at = rng.randrange(len(rows))
        words = rows[at].split(" ")
        place = rng.randrange(len(words))
        way = rng.randrange(10)
        if way == 0:
            del rows[at]
            rows[at:at] = [] if rows else ["x"]
        elif way == 1:
            rows.insert(rng.randrange(len(rows) + 1), rows[at])
        elif way == 2:
            other = rng.randrange(len(rows))
            rows[at], rows[other] = rows[other], rows[at]
        elif way == 3:
            rows[at] = " ".join(words[:place] + words[place + 1:])
        elif way == 4:
            rows[at] = " ".join(words[:place] + [rng.choice(odd)] + words[place:])
        elif way == 5:
            rows[at] = " ".join([rng.choice(firsts)] + words[1:])
        else:
            rows[at] = " ".join(words[:place] + [rng.choice(odd)] + words[place + 1:])

    def test_each_kind_of_row(self):
        ahead = ["condition all 2 row has a", "plan all 2 has a row", "rule f base 1 a to h 0 +n",
                 "rule g table h 2 to k 1", "deed 4 add a 5", "deed 5 put 1 b 2 a 1", "page 0 4 0 1", "edit 0 4 none",
                 "page 0 4 1 0"]
        wrong = [
            "setting 2 1 1 0 3 one content", "condition row", "plan all 2 has a row", "rule f base 1 a to k 0",
            "rule e table h 1 to k 0", "rule e table h 2 to h 1 +n", "rule e base 0 to k 0", "rule e base 2 a to k 0",
            "rule e base 1 a to k 1", "rule e base 1 a to k", "rule e base 1 a k 0", "rule e table h 2 k 0", "rule",
            "rule e table h 2 to k +", "rule e table h 2 to k +abcde", "rule e bases 1 a to k 0", "rule e base",
            "rule e", "rule e base 1 a to k 00", "rule E base 1 a to k 0", "rule e table h to k 0", "deed 6 strike 1",
            "page 0 4 1 1", "page 0 5 0 3", "page 2 5 0 1", "page 1 4 1 1", "page 0 6 0 1", "page 0 5 1 1",
            "page 0 5 0", "page 0 5 0 1 1", "page 0 5 0 01", "page 0 4 0 1", "edit 0 5 put 1", "edit 0 6 none",
            "edit 0 0 strike 1", "edit 2 6 strike 1", "edit 1,0 6 strike 1", "edit 0,0 6 strike 1", "edit 6 strike 1",
            "edit  6 strike 1", "edit 0 6 strike 10", "edit 0 6 strike", "edit 0 6 add a 100", "edit 0 6 put 1 a",
            "edit 0 6 put 1 a 1 a 2", "edit 0 6 put a 1", "edit 0 6 put 1 a 1 b 1 c 1 d 1 e 1", "edit 0 6", "edit 0",
            "edit", "edit 0 1000 strike 1", "edit 0 6 none none", "edit 0 6 rename a", "edit 0 6 rename a b c",
            "edit 0 6 drop A", "edit 0 6 drop", "edit 0 6 hide a", "undo 2", "undo", "undo 0 1", "undo 0 4 none",
            "redo 0", "redo", "", " ", "undo 0 ", " undo 0", "x", "Undo 0", "undo 0,",
        ]
        right = ["edit 0,1 6 put 9 d 99 c 0 b 1 a 2", "edit - 4 rename a a", "undo 0", "page 1 5 0 2", "page 0 5 0 0",
                 "rule e table h 2 to k +m", "rule e base 3 c b a to k 2", "rule base table base 3 to base 2 +b 0",
                 "edit 0 999 strike 0", "edit 1 5 none"]
        for row in wrong:
            text = "\n".join([SETTING] + ahead + [row, "x"])
            self.assertEqual(first_wrong(text), 10, row)
            raised(self, BadText, 10, read, text)
        for row in right:
            text = "\n".join([SETTING] + ahead + [row])
            self.assertIs(first_wrong(text), None, row)
            self.assertTrue(is_written(write(read(text))))
        for row in ("plan row", "condition", "condition row row", "condition all 0", "condition all 1",
                    "condition eq a 100", "condition eq a 01", "condition has", "condition has abcde",
                    "condition all 2 row row", "condition nots row", "condition not not not not row",
                    "condition any 7 row row row row row row row", "condition all 01 row",
                    "condition " + "not " * 3000 + "row", "condition " + "all 1 " * 3000 + "row",
                    "condition all 999 row", "page 0 1 0 0", "undo 0"):
            raised(self, BadText, 1, read, SETTING + "\n" + row + "\nx")

    def test_first_rows(self):
        for row in ("", "condition row", "setting", "setting 2 1 1 0 3 one", SETTING + " x",
                    "setting 2 1 1 0 3 both content", "setting 2 1 1 0 3 one names", "setting 6 1 1 0 3 one content",
                    "setting 2 3 1 0 3 one content", "setting 2 1 0 0 3 one content", "setting 2 1 1 3 3 one content",
                    "setting 2 1 1 0 7 one content", "setting 2 1 1 0 0 one content", "setting 02 1 1 0 3 one content",
                    " " + SETTING, SETTING + " ", "setting 2 1 1 0 3 content one", "Setting 2 1 1 0 3 one content",
                    "deed 1 strike 1"):
            raised(self, BadText, 0, read, row)
            raised(self, BadText, 0, read, row + "\n" + SETTING)
        raised(self, BadText, 1, read, SETTING + "\n")
        raised(self, BadText, 1, read, SETTING + "\n\ncondition row")
        raised(self, BadText, 2, read, SETTING + "\ncondition row\n" + SETTING)


class Refusals(unittest.TestCase):
    def test_no_stores(self):
        live = read(SETTING)
        live.walk(0, 0, "free")
        for value in odd_values() + [SETTING, Setting(), live]:
            raised(self, NoStore, value, write, value)
            raised(self, NoStore, value, write, live=value)
            raised(self, NoStore, value, rows_of, value, None)
        live.drop(0)
        self.assertEqual(write(live), write(read(SETTING)))

    def test_no_words(self):
        live = read(SETTING)
        for value in odd_values() + ["undo", "redo", "Setting", "row"]:
            raised(self, NoName, value, rows_of, live, value)
            raised(self, NoName, value, rows_of, word=value, live=live)

    def test_no_texts(self):
        for value in odd_values() + [[SETTING], SETTING.encode()]:
            if value.__class__ is not str:
                raised(self, BadText, None, read, value)
                raised(self, BadText, None, read, text=value)
            self.assertIs(is_written(value), False)
            self.assertIs(is_written(text=value), False)


if __name__ == "__main__":
    unittest.main()
