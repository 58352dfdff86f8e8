import random
import unittest

from plainstore.console import Console
from plainstore.errors import NoLine, StoreError, TooMany
from plainstore.settings import verdict
from plainstore.texts import read, write
from tests.kinds import odd_values, raised
from tests.living import PlainLive, some_act
from tests.test_live import do
from tests.test_texts import some_store
from tests.texting import told_deed, told_lot

SETTING = "setting 2 1 1 0 3 one content"
# Lines that have a form; with no live store each is refused.
LINES = ["edit 0 1 add a 5", "edit 0,1 2 put 0", "edit - 3 put 0 a 1", "edit 1 1 none", "undo 0", "redo -",
         "move 0 1 1 2", "drop 0", "back", "again", "walk 0 0 free", "step 0", "ask 0 a 5", "run 0 5", "rows 5",
         "seen 0,1", "lacks -", "plain", "show"]
# Lines that have none.
UNKNOWN = [
    "", " ", "x", "Clear", "clear ", "clear 1", " begin", "begin 0", "beginn", "edit", "edit 0", "edit 0 1",
    "edit 0 1 add", "edit 0 1 add a", "edit 0 1 add a 5 6", "edit 0 1 add abcde 5", "edit 0 1 add a 01",
    "edit 0 1 add a 1000", "edit 0 1 put", "edit 0 1 put 0 a", "edit 0 1 put 0 a 1 b", "edit 0 1 put 0 1 a",
    "edit 0 1 put a 1", "edit 0 1 strike", "edit 0 1 strike a", "edit 0 1 drop 1", "edit 0 1 rename a",
    "edit 0 1 rename a b c", "edit 0 1 none 1", "edit 0 none", "edit 0, 1 none", "edit ,0 1 none", "edit 0,,1 1 none",
    "edit a 1 none", "edit -,0 1 none", "edit 00 1 none", "edit 0 -1 none", "edit 0 1 hide a", "edit  0 1 none",
    "edit 0 1 none ", "edit 1000 1 none", "undo", "undo 0 1", "undo a", "undo 0 ", "redo", "redo 01", "move 0 1 1",
    "move 0 1 1 2 3", "move - 1 1 2", "move 0,1 1 1 2", "move 0 1 1 a", "drop", "drop a", "drop -", "drop 0 0",
    "back 1", "again 0", "walk 0 0", "walk 0 0 Free", "walk 0 0 f1", "walk 0 0 freeeeeee", "walk 0 0 free 1",
    "walk a 0 free", "walk 0 0 ", "step", "step -1", "step 0 0", "ask 0 a", "ask 0 1 5", "ask 0 A 5", "ask 0 abcde 5",
    "ask a a 5", "ask 0 a 1000", "run 0", "run 0 5 5", "run a 5", "rows", "rows a", "rows 5 5", "seen", "seen a",
    "seen 0 1", "lacks", "lacks 0,", "plain 1", "plains", "show 0", "Show", "ask\t0 a 5", "rule f base 1 a to h 0",
    "deed 1 drop a", "page 0 1 1 1", "setting 2 1 1 0 3 one content", "back\n", "\n", "clear\n", "+row\nx", "+\n",
    "begin\n",
]
# Lines that have a form, and are beyond a limit.
BEYOND = [
    "edit 5 1 none", "edit 1,0 1 add a 5", "edit 0,0 1 add a 5", "edit 0 0 add a 5", "edit 0 1 add a 100",
    "edit 0 1 put 10", "edit 0 1 put 0 a 100", "edit 0 1 put 0 a 1 a 2", "edit 0 1 put 0 a 1 b 1 c 1 d 1 e 1",
    "edit 0 1 strike 10", "edit 0 999 none", "undo 9", "redo 0,999", "move 9 1 1 1", "move 0 1 1 6", "move 0 999 1 1",
    "drop 999", "walk 9 0 free", "walk 0 9 free", "walk 0 0 fast", "walk 0 0 f", "walk 0 0 abcdefgh", "step 999",
    "ask 10 a 5", "run 10 5", "seen 9", "seen 1,0", "lacks 0,0", "again",
]


def begun(*rows):
    console = Console()
    for row in rows or (SETTING,):
        assert console.run("+" + row) == "ok"
    assert console.run("begin") == "ok"
    return console


def told_line(act):
    """The line of a deed."""
    word, *args = act
    if word == "edit":
        lot, (way, what) = args
        return f"edit {told_lot(lot)} " + (f"{what} none" if way == "out" else f"{what[0]} {told_deed(what)}")
    if word in ("undo", "redo"):
        return f"{word} {told_lot(args[0])}"
    return " ".join([word, *map(str, args)])


def plain_answer(live, act):
    """What a line answers, by the calls of a live store."""
    try:
        told = do(live, act)
    except (StoreError, TooMany):
        return "error"
    if act[0] == "walk":
        return str(told)
    if act[0] == "step":
        return "on" if told is None else str(len(told))
    return "ok"


def shown(live):
    """The answers to what a console is asked of this store."""
    told = {}
    for t in (0, 4, 999):
        told[f"rows {t}"] = str(len(live.invented(t)))
        for key in (0, 1):
            told[f"run {key} {t}"] = live.run(key, t)
            for name in ("a", "b", "zz"):
                answer = live.ask(key, name, t)
                told[f"ask {key} {name} {t}"] = {"no row": "none", "no column": "nowhere"}.get(answer, str(answer))
    for lot in ((), (0,), tuple(range(live.setting().many))):
        told["seen " + told_lot(lot)] = str(len(live.seen(lot)))
        told["lacks " + told_lot(lot)] = " ".join(map(str, live.lacks(lot))) or "-"
    told["plain"] = verdict(live.setting())[-1 if len(verdict(live.setting())) == 1 else 1]
    told["show"] = "error" if live.walks() else str(len(write(live).split("\n")))
    return told


class Lines(unittest.TestCase):
    def check(self, console, live):
        for line, answer in shown(live).items():
            self.assertEqual(console.run(line), answer, line)

    def test_beside_the_calls_of_a_live_store(self):
        rng = random.Random(240)
        seen = {}
        for _ in range(60):
            _, rows = some_store(rng)
            console, live = begun(*rows), read("\n".join(rows))
            self.check(console, live)
            model = PlainLive(live.setting().many, live.setting().pages, [])
            for _ in range(25):
                word = rng.choice(("back", "again", "act", "act", "act", "act"))
                act = (word,)
                if word == "act":
                    lying = [[record[:2] for record in live.records(on)] for on in range(model.count)]
                    model.state.lay = [{record: [(0, 0)] for record in records} for records in lying]
                    model.state.walks = {walk[0]: None for walk in live.walks()}
                    model.state.pasts = [live.past().deeds()]
                    act = some_act(rng, model)
                answer = plain_answer(live, act)
                self.assertEqual(console.run(line=told_line(act)), answer)
                seen[(act[0], answer == "error")] = seen.get((act[0], answer == "error"), 0) + 1
                if rng.random() < 0.2:
                    self.check(console, live)
            self.check(console, live)
        for word in ("edit", "undo", "redo", "move", "step", "drop", "back", "again"):
            self.assertGreater(min(seen[(word, False)], seen[(word, True)]), 2, word)
        self.assertGreater(seen[("walk", False)], 50)

    def test_told(self):
        console = Console()
        told = [
            ("begin", "error"), ("back", "error"), ("+" + SETTING, "ok"), ("begin", "ok"), ("show", "3"),
            ("plain", "copies"), ("edit 0 1 add a 5", "ok"), ("edit 0 2 put 7 b 1 a 9", "ok"), ("ask 7 a 2", "9"),
            ("ask 7 a 1", "none"), ("ask 7 b 2", "nowhere"), ("run 7 2", "yes"), ("run 7 1", "no"), ("rows 2", "0"),
            ("seen 0", "2"), ("seen 1", "0"), ("lacks 1", "1 2"), ("lacks 0,1", "-"), ("lacks -", "1 2"),
            ("walk 0 1 free", "0"), ("show", "error"), ("step 0", "on"), ("move 0 1 1 1", "ok"), ("step 0", "on"),
            ("step 0", "1"), ("step 0", "error"), ("walk 1 0 left", "1"), ("drop 1", "ok"), ("show", "6"),
            ("undo 1", "ok"), ("ask 7 a 2", "none"), ("redo 0", "ok"), ("show", "8"), ("back", "ok"), ("back", "ok"),
            ("again", "ok"), ("ask 7 a 2", "none"), ("again", "ok"), ("ask 7 a 2", "9"), ("again", "error"),
            ("begin", "ok"), ("show", "3"), ("back", "error"), ("clear", "ok"), ("show", "error"), ("begin", "error"),
        ]
        for line, answer in told:
            self.assertEqual(console.run(line), answer, line)

    def test_parts_that_are_wrong(self):
        rows = [SETTING.replace("2 1 1 0", "2 2 2 0"), "condition all 3 row has a eq a 1"]
        self.assertEqual(begun(*rows).run("plain"), "plain")
        self.assertEqual(begun(*rows, "plan all 3 eq a 1 row has a").run("plain"), "plan")
        rows[0] = rows[0].replace("one content", "each number")
        self.assertEqual(begun(*rows).run("plain"), "reading")
        rows = ["setting 1 1 1 0 1 each number", "rule f base 1 a to h 0 +n", "deed 1 add a 3", "deed 2 put 0"]
        console = begun(*rows)
        self.assertEqual((console.run("plain"), console.run("rows 2"), console.run("rows 1")), ("making", "1", "0"))


class Rows(unittest.TestCase):
    def test_they_stay_kept(self):
        console = begun()
        self.assertEqual(console.run("edit 0 5 strike 1"), "ok")
        self.assertEqual(console.run("+condition has a"), "ok")
        self.assertEqual((console.run("run 0 5"), console.run("show")), ("no", "4"))
        self.assertEqual((console.run("begin"), console.run("show"), console.run("back")), ("ok", "3", "error"))
        self.assertEqual((console.run("+x"), console.run("edit 0 5 strike 1"), console.run("begin")),
                         ("ok", "ok", "error"))
        self.assertEqual((console.run("show"), console.run("seen 0")), ("4", "1"))
        self.assertEqual((console.run("clear"), console.run("begin"), console.run("show")), ("ok", "error", "error"))
        self.assertEqual((console.run("+" + SETTING), console.run("begin"), console.run("show")), ("ok", "ok", "3"))

    def test_any_row_is_kept(self):
        for row in ("", " ", "+", "++x", "begin", "clear", " setting", "a" * 500):
            console = begun()
            self.assertEqual((console.run("+" + row), console.run("begin"), console.run("show")), ("ok", "error", "3"))
        console = Console()
        self.assertEqual((console.run("+"), console.run("+" + SETTING), console.run("begin")), ("ok", "ok", "error"))

    def test_consoles_go_on_by_themselves(self):
        one, other = begun(), Console()
        self.assertEqual((one.run("show"), other.run("show"), other.run("begin")), ("3", "error", "error"))


class Refused(unittest.TestCase):
    def test_lines_without_a_live_store(self):
        for line in LINES + BEYOND:
            console = Console()
            self.assertEqual(console.run(line), "error")
            self.assertEqual((console.run("+" + SETTING), console.run(line)), ("ok", "error"))
            self.assertEqual((console.run("begin"), console.run("show")), ("ok", "3"))

    def test_lines_of_no_form(self):
        for line in UNKNOWN:
            self.assertEqual(Console().run(line), "unknown", line)
            console = begun(SETTING, "edit 0 1 add a 5")
            self.assertEqual(console.run("edit 0 2 put 0"), "ok")
            self.assertEqual(console.run("back"), "ok")
            self.assertEqual(console.run(line), "unknown", line)
            self.assertEqual((console.run("again"), console.run("show"), console.run("ask 0 a 2")), ("ok", "5", "5"))
            self.assertEqual((console.run("begin"), console.run("show")), ("ok", "4"))

    def test_lines_that_are_refused_change_nothing(self):
        for line in BEYOND:
            console = begun(SETTING, "edit 0 1 add a 5")
            for word in ("walk 0 0 barred", "step 0", "edit 0 2 put 0", "back"):
                self.assertNotEqual(console.run(word), "error")
            if line != "again":
                self.assertEqual(console.run(line), "error", line)
                self.assertEqual((console.run("again"), console.run("ask 0 a 2"), console.run("step 0")),
                                 ("ok", "5", "on"))

    def test_too_many(self):
        console = begun(SETTING, *[f"deed {moment} strike 1" for moment in range(1, 61)])
        self.assertEqual((console.run("edit 0 61 strike 1"), console.run("edit 0 60 none")), ("error", "ok"))
        for _ in range(29):
            self.assertEqual((console.run("undo 0"), console.run("redo 1")), ("ok", "ok"))
        self.assertEqual((console.run("undo -"), console.run("redo 0"), console.run("edit 0 1 none")),
                         ("ok", "error", "error"))

    def test_no_lines(self):
        for value in odd_values() + [b"back", ["back"]]:
            if value.__class__ is not str:
                raised(self, NoLine, value, Console().run, value)
                raised(self, NoLine, value, Console().run, line=value)
        self.assertRaises(TypeError, Console, 1)


if __name__ == "__main__":
    unittest.main()
