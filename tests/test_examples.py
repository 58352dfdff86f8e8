"""The examples at the document's end, as far as they are built."""

import unittest

from plainstore.changes import shown, touched
from plainstore.copies import Copies
from plainstore.pasts import Past
from plainstore.plain import ask, columns_at, row_at
from plainstore.plans import cheapest, guards
from plainstore.votes import chances, enough_lots, missed_paper

PAST = Past([(1, "add", "a", 5), (2, "put", 0, (("a", 7),)), (4, "rename", "a", "b"), (6, "drop", "b")])


class Examples(unittest.TestCase):
    def test_plain_tables(self):
        told = (columns_at(PAST, 4), row_at(PAST, 0, 6), ask(PAST, 0, "a", 4), ask(PAST, 0, "a", 1))
        self.assertEqual(told, ([("b", 5)], {}, "no column", "no row"))

    def test_touched_and_shown(self):
        told = (touched(PAST, ("out", 2)), shown(PAST, ("out", 2)))
        self.assertEqual(told, ({0: ((2, 999),)}, {0: ((2, 5),)}))

    def test_copies(self):
        copies = Copies(3)
        copies.edit((0, 1), ("in", (10, "put", 0, ())))
        copies.edit((1, 2), ("out", 10))
        self.assertEqual((copies.seen((0, 2)), copies.lacks((0,))), ([], [10]))

    def test_votes(self):
        told = (enough_lots((2, 1, 1), 3, 1), missed_paper((2, 1, 1), 3, 1, (0, 1)))
        self.assertEqual(told, ([(0, 1, 2)], ("missed", (0, 1), (0, 2))))
        self.assertEqual(chances((2, 1, 1), 3, 0, [(3, 4), (3, 4), (3, 4)]), ((45, 64), (57, 64)))

    def test_plans(self):
        condition = ("all", (("has", "a"), ("row",), ("eq", "a", 1)))
        self.assertEqual(guards(condition), [((2,), (0,), (1,))])
        told = cheapest(condition, [(4, 1), (1, 1), (1, 1)], [(1, 2), (1, 2), (1, 3)])
        self.assertEqual(told, (("all", (("row",), ("has", "a"), ("eq", "a", 1))), (13, 4)))


if __name__ == "__main__":
    unittest.main()
