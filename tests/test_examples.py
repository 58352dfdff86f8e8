"""The examples at the document's end."""

import unittest

from plainstore.changes import shown, touched
from plainstore.copies import Copies
from plainstore.ends import ends_paper, most_rows
from plainstore.live import Live
from plainstore.parted import parted
from plainstore.pasts import Past
from plainstore.plain import ask, columns_at, row_at
from plainstore.plans import cheapest, guards
from plainstore.rules import Rules, invented
from plainstore.settings import Setting, verdict
from plainstore.support import surely
from plainstore.texts import write
from plainstore.votes import chances, enough_lots, missed_paper
from plainstore.wishes import least_changes

PAST = Past([(1, "add", "a", 5), (2, "put", 0, (("a", 7),)), (4, "rename", "a", "b"), (6, "drop", "b")])


class Examples(unittest.TestCase):
    def test_plain_tables(self):
        told = (columns_at(PAST, 4), row_at(PAST, 0, 6), ask(PAST, 0, "a", 4), ask(PAST, 0, "a", 1))
        self.assertEqual(told, ([("b", 5)], {}, "no column", "no row"))

    def test_touched_and_shown(self):
        told = (touched(PAST, ("out", 2)), shown(PAST, ("out", 2)))
        self.assertEqual(told, ({0: ((2, 999),)}, {0: ((2, 5),)}))

    def test_copies(self):
        copies = Copies(3)
        copies.edit((0, 1), ("in", (10, "put", 0, ())))
        copies.edit((1, 2), ("out", 10))
        self.assertEqual((copies.seen((0, 2)), copies.lacks((0,))), ([], [10]))

    def test_votes(self):
        told = (enough_lots((2, 1, 1), 3, 1), missed_paper((2, 1, 1), 3, 1, (0, 1)))
        self.assertEqual(told, ([(0, 1, 2)], ("missed", (0, 1), (0, 2))))
        self.assertEqual(chances((2, 1, 1), 3, 0, [(3, 4), (3, 4), (3, 4)]), ((45, 64), (57, 64)))

    def test_plans(self):
        condition = ("all", (("has", "a"), ("row",), ("eq", "a", 1)))
        self.assertEqual(guards(condition), [((2,), (0,), (1,))])
        told = cheapest(condition, [(4, 1), (1, 1), (1, 1)], [(1, 2), (1, 2), (1, 3)])
        self.assertEqual(told, (("all", (("row",), ("has", "a"), ("eq", "a", 1))), (13, 4)))
        self.assertEqual(parted(condition), ((False, (True,)), (True, (None,)), 1))

    def test_rules(self):
        rules = Rules([("f", ("base", ("a",)), ("h", (0, ("new", "n")))), ("e", ("h", 2), ("k", (0,)))])
        past = Past([(1, "add", "a", 0), (2, "put", 0, (("a", 4),))])
        self.assertEqual(invented(rules, past, 2), [("h", (4, ("f", "n", (4,)))), ("k", (4,))])
        self.assertEqual(ends_paper(rules), ("ends", [(("h", 0), 0), (("h", 1), 1), (("k", 0), 0)]))
        self.assertEqual(most_rows(rules, 10), 20)
        self.assertIs(surely(rules, ["a"], {}, ("h", (("mark", 1), ("mark", 2)))), True)
        self.assertIs(surely(rules, ["a"], {}, ("k", (4,))), False)

    def test_settings_and_wishes(self):
        past = Past([(2, "add", "a", 5)])
        self.assertEqual(verdict(Setting(3, 2, 2, 1, 2)), ("bars", "copies", ((0, 1), (1, 2))))
        self.assertEqual(verdict(Setting(5, 3, 4, 1, 2)), ("plain",))
        self.assertEqual(least_changes(past, (0, "a", 3, 7)), [("in", (3, "put", 0, (("a", 7),)))])
        told = least_changes(past, (0, "b", 3, 7))
        self.assertEqual(told, [("in", (3, "add", "b", 7)), ("in", (1, "put", 0, ()))])

    def test_a_live_store(self):
        live = Live(Setting(2, 1, 1, 0, 2))
        live.edit((0,), ("in", (1, "add", "a", 5)))
        walk = live.walk(0, 1, "free")
        live.step(walk)
        live.move(0, 1, 1, 1)
        told = (live.step(walk), live.ask(0, "a", 1), len(live), write(live).split("\n"))
        self.assertEqual(told, ([], "no row", 5, [
            "setting 2 1 1 0 2 one content", "condition row", "plan row", "edit 0 1 add a 5", "page 0 1 1 1",
        ]))


if __name__ == "__main__":
    unittest.main()
