import random
import unittest
from itertools import combinations

from plainstore.copies import Copies
from plainstore.errors import NoChange, NoCount, NoLot, NoPast, NothingBack, TooMany
from plainstore.pasts import Past
from tests.kinds import odd_values, raised
from tests.reckon import behind, some_deed, some_deeds, some_pasts

PUT = (5, "put", 1, (("b", 2), ("a", 1)))
PUT_IN_ORDER = (5, "put", 1, (("a", 1), ("b", 2)))
SIXTY = [(moment, "strike", 0) for moment in range(1, 61)]


def lots_of(count):
    return [lot for size in range(count + 1) for lot in combinations(range(count), size)]


class PlainCopies:
    """The plain reckoning: every record is kept where it lies, and every past of the line is kept whole."""

    def __init__(self, count, deeds):
        self.on = [[(deed[0], 0, deed) for deed in deeds] for _ in range(count)]
        self.edits = []
        self.pasts = [list(deeds)]
        self.done = []
        self.undone = []

    def write(self, lot, change):
        self.edits.append((lot, change))
        moment = change[1] if change[0] == "out" else change[1][0]
        for copy in lot:
            self.on[copy].append((moment, len(self.edits), None if change[0] == "out" else change[1]))

    def past(self):
        return self.pasts[len(self.done)]

    def edit(self, lot, change):
        self.write(lot, change)
        self.pasts[len(self.done) + 1:] = [behind(self.past(), change)]
        self.done.append(len(self.edits))
        self.undone = []

    def undo(self, lot):
        number = self.done.pop()
        self.undone.insert(0, number)
        word, what = self.edits[number - 1][1]
        before = {deed[0]: deed for deed in self.past()}
        self.write(lot, ("out", what[0]) if word == "in" else ("in", before[what]))

    def redo(self, lot):
        number = self.undone.pop(0)
        self.write(lot, self.edits[number - 1][1])
        self.done.append(number)

    def line(self):
        return (tuple(self.done), tuple(self.undone))

    def records(self, copy):
        return sorted(self.on[copy], key=lambda record: record[:2])

    def seen(self, lot):
        told = []
        for moment in range(1, 1000):
            here = [record for copy in lot for record in self.on[copy] if record[0] == moment]
            if here and max(here, key=lambda record: record[1])[2] is not None:
                told.append(max(here, key=lambda record: record[1])[2])
        return told

    def lacks(self, lot):
        seen = self.seen(lot)
        return [t for t in range(1, 1000) if [d for d in seen if d[0] == t] != [d for d in self.past() if d[0] == t]]


class Beginnings(unittest.TestCase):
    def test_counts(self):
        for count in range(1, 6):
            copies = Copies(count)
            self.assertEqual((copies.many, len(copies), copies.edits(), copies.line()), (count, 0, [], ((), ())))
            self.assertTrue(copies.past() == Past())
        for value in odd_values() + [0, 6]:
            raised(self, NoCount, value, Copies, value)
            raised(self, NoCount, value, Copies, past=5, count=value)

    def test_first_pasts(self):
        past = Past([PUT, (1, "add", "a", 3)])
        for copies in (Copies(2, past), Copies(past=past, count=2)):
            self.assertTrue(copies.past() == past)
            for copy in (0, 1):
                self.assertEqual(copies.records(copy), [(1, 0, (1, "add", "a", 3)), (5, 0, PUT_IN_ORDER)])
            self.assertEqual(copies.seen((1,)), past.deeds())
            self.assertEqual((copies.seen(()), copies.lacks(()), copies.lacks((0,))), ([], [1, 5], []))
        for value in odd_values() + [past.deeds(), Copies(1)]:
            if value is not None:
                raised(self, NoPast, value, Copies, 1, value)
        self.assertTrue(Copies(3, None) == Copies(3) == Copies(3, Past()))

    def test_methods_stand_in_the_class(self):
        for name in "__init__ many edit past edits records seen lacks undo redo line __len__ twin __eq__".split():
            self.assertIn(name, vars(Copies))
        self.assertIsInstance(vars(Copies)["many"], property)


class Editing(unittest.TestCase):
    def test_edits(self):
        copies = Copies(3)
        self.assertIs(copies.edit((0, 1), ("in", PUT)), None)
        self.assertIs(copies.edit(change=("out", 5), lot=(1, 2)), None)
        copies.edit((), ("in", (7, "drop", "a")))
        self.assertEqual(copies.edits(), [
            ((0, 1), ("in", PUT_IN_ORDER)), ((1, 2), ("out", 5)), ((), ("in", (7, "drop", "a"))),
        ])
        self.assertEqual((len(copies), copies.line()), (3, ((1, 2, 3), ())))
        self.assertEqual(copies.past().deeds(), [(7, "drop", "a")])
        self.assertEqual(copies.records(0), [(5, 1, PUT_IN_ORDER)])
        self.assertEqual(copies.records(1), [(5, 1, PUT_IN_ORDER), (5, 2, None)])
        self.assertEqual(copies.records(copy=2), [(5, 2, None)])
        self.assertEqual([copies.seen(lot) for lot in ((0,), (1,), (2,), (0, 2))], [[PUT_IN_ORDER], [], [], []])
        self.assertEqual([copies.lacks(lot) for lot in ((0,), (1,), (0, 2), ())], [[5, 7], [7], [7], [7]])
        self.assertEqual((copies.seen(lot=(0,)), copies.lacks(lot=(0,))), ([PUT_IN_ORDER], [5, 7]))

    def test_what_is_there_otherwise_is_lacked(self):
        copies = Copies(2, Past([PUT]))
        copies.edit((0, 1), ("out", 5))
        copies.edit((0,), ("in", (5, "strike", 1)))
        self.assertEqual((copies.seen((0,)), copies.lacks((0,))), ([(5, "strike", 1)], []))
        self.assertEqual((copies.seen((1,)), copies.lacks((1,))), ([], [5]))
        copies.edit((1,), ("out", 5))
        copies.edit((1,), ("in", (5, "drop", "a")))
        self.assertEqual((copies.seen((0,)), copies.lacks((0,))), ([(5, "strike", 1)], [5]))
        self.assertEqual((copies.seen((0, 1)), copies.lacks((0, 1))), ([(5, "drop", "a")], []))

    def test_records_by_moments_then_numbers(self):
        copies = Copies(1, Past([(7, "drop", "a")]))
        copies.edit((0,), ("in", (9, "drop", "b")))
        copies.edit((0,), ("out", 7))
        copies.edit((0,), ("in", (3, "drop", "c")))
        copies.edit((0,), ("in", (7, "drop", "d")))
        self.assertEqual([record[:2] for record in copies.records(0)], [(3, 3), (7, 0), (7, 2), (7, 4), (9, 1)])
        self.assertEqual([deed[0] for deed in copies.seen((0,))], [3, 7, 9])

    def test_undo_and_redo(self):
        copies = Copies(2, Past([PUT]))
        copies.edit((0, 1), ("out", 5))
        copies.edit((0,), ("in", (5, "strike", 1)))
        self.assertIs(copies.undo((1,)), None)
        self.assertEqual((copies.edits()[-1], copies.line()), (((1,), ("out", 5)), ((1,), (2,))))
        self.assertIs(copies.undo(lot=(0,)), None)
        self.assertEqual((copies.edits()[-1], copies.line()), (((0,), ("in", PUT_IN_ORDER)), ((), (1, 2))))
        self.assertEqual(copies.past().deeds(), [PUT_IN_ORDER])
        self.assertIs(copies.redo(()), None)
        self.assertEqual((copies.edits()[-1], copies.line()), (((), ("out", 5)), ((1,), (2,))))
        copies.redo(lot=(0, 1))
        self.assertEqual((copies.edits()[-1], copies.line()), (((0, 1), ("in", (5, "strike", 1))), ((1, 2), ())))
        copies.undo((0, 1))
        copies.edit((0, 1), ("in", (9, "drop", "a")))
        self.assertEqual((copies.line(), len(copies)), (((1, 8), ()), 8))
        copies.undo((0, 1))
        copies.undo((0, 1))
        self.assertEqual((copies.line(), copies.past().deeds()), (((), (1, 8)), [PUT_IN_ORDER]))

    def test_told_lists_may_be_changed(self):
        copies = Copies(2, Past([PUT]))
        copies.edit((0,), ("in", (9, "drop", "a")))
        for told in (copies.edits(), copies.records(0), copies.seen((0,)), copies.lacks((1,)), copies.past().deeds()):
            told.clear()
        self.assertEqual(copies.edits(), [((0,), ("in", (9, "drop", "a")))])
        self.assertEqual((len(copies.records(0)), len(copies.seen((0,))), copies.lacks((1,))), (2, 2, [9]))
        self.assertEqual(len(copies.past()), 2)


class PlainReckoning(unittest.TestCase):
    def lead(self, seed, count, deeds, steps, close):
        """Lead copies and the plain ones by the same edits, undos and redos."""
        rng = random.Random(seed)
        copies, plain = Copies(count, Past(deeds)), PlainCopies(count, deeds)
        for _ in range(steps):
            lot = rng.choice(lots_of(count))
            word = rng.choice(("edit", "edit", "edit", "undo", "redo"))
            if word == "undo" and plain.done:
                copies.undo(lot)
                plain.undo(lot)
            elif word == "redo" and plain.undone:
                copies.redo(lot)
                plain.redo(lot)
            else:
                change = self.some_change(rng, plain.past(), close)
                copies.edit(lot, change)
                plain.edit(lot, change)
            yield copies, plain

    def some_change(self, rng, deeds, close):
        moment = rng.choice((rng.randrange(1, close + 1), rng.randrange(1, 1000)))
        if moment in [deed[0] for deed in deeds]:
            return ("out", moment)
        return ("out", rng.choice(deeds)[0]) if len(deeds) == 60 else ("in", some_deed(rng, moment))

    def check(self, copies, plain):
        self.assertEqual(copies.past().deeds(), sorted(plain.past()))
        self.assertEqual((copies.edits(), copies.line(), len(copies)), (plain.edits, plain.line(), len(plain.edits)))
        for copy in range(copies.many):
            self.assertEqual(copies.records(copy), plain.records(copy))

    def check_lots(self, copies, plain):
        for lot in lots_of(copies.many):
            self.assertEqual(copies.seen(lot), plain.seen(lot))
            self.assertEqual(copies.lacks(lot), plain.lacks(lot))

    def test_led_by_many(self):
        for number, deeds in enumerate(some_pasts(16, 24)):
            last = None
            for copies, plain in self.lead(number, number % 5 + 1, deeds, 40, (3, 8, 70)[number % 3]):
                self.check(copies, plain)
                last = (copies, plain)
            if number % 4 == 0 or len(deeds) == 60:
                self.check_lots(*last)

    def test_lots_at_each_step(self):
        for seed in range(3):
            for copies, plain in self.lead(seed, 3, some_deeds(random.Random(seed), 3, 6), 12, 6):
                self.check_lots(copies, plain)

    def test_sixty_edits(self):
        for copies, plain in self.lead(17, 5, [], 60, 9):
            pass
        self.check(copies, plain)
        self.check_lots(copies, plain)
        self.assertEqual(len(copies), 60)
        twin = copies.twin()
        fresh = ("in", (next(t for t in range(1, 1000) if t not in copies.past()), "drop", "a"))
        raised(self, TooMany, 60, copies.edit, (0,), fresh)
        raised(self, NoChange, None, copies.edit, (0,), None)
        self.assertTrue(copies == twin)
        self.check(copies, plain)


class Refusals(unittest.TestCase):
    def setUp(self):
        self.copies = Copies(3, Past([PUT]))
        self.copies.edit((0, 1), ("in", (9, "drop", "a")))
        self.copies.edit((2,), ("out", 5))
        self.copies.undo((1,))
        self.twin = self.copies.twin()

    def tearDown(self):
        self.assertTrue(self.copies == self.twin)
        self.assertEqual(self.copies.past().deeds(), self.twin.past().deeds())
        for copy in range(3):
            self.assertEqual(self.copies.records(copy), self.twin.records(copy))
        self.copies.undo((0,))
        self.copies.redo((0,))
        self.copies.redo((0,))
        self.assertEqual(self.copies.line(), ((1, 2), ()))

    def test_no_lot(self):
        wrong = [
            (3,), (0, 3), (-1,), (1, 0), (0, 0), (True,), (0, True), [0], (0.0,), ("0",), 0, ((0,),), (0, None), {0: 1},
        ]
        for value in odd_values() + wrong:
            if repr(value) in ("()", "(1,)"):
                continue
            for call in (self.copies.undo, self.copies.redo, self.copies.seen, self.copies.lacks):
                raised(self, NoLot, value, call, value)
            raised(self, NoLot, value, self.copies.edit, value, None)
            raised(self, NoLot, value, self.copies.edit, change=("out", 9), lot=value)

    def test_lots(self):
        for lot in lots_of(3):
            self.assertEqual(self.copies.seen(lot), self.twin.seen(lot))
        raised(self, NoLot, (0,) * 2, self.copies.seen, (0, 0))

    def test_no_copy(self):
        for value in odd_values() + [3, (0,)]:
            raised(self, NoLot, value, self.copies.records, value)

    def test_no_change(self):
        for value in odd_values() + [("out", 6), ("in", PUT), ("in", (9, "strike", 0)), ("out", True), ["out", 9]]:
            raised(self, NoChange, value, self.copies.edit, (0,), value)
            raised(self, NoLot, None, self.copies.edit, None, value)

    def test_nothing_back(self):
        copies = Copies(2)
        raised(self, NothingBack, "undo", copies.undo, (0,))
        raised(self, NothingBack, "redo", copies.redo, (0,))
        raised(self, NoLot, (2,), copies.undo, (2,))
        raised(self, NoLot, (2,), copies.redo, (2,))
        copies.edit((0,), ("in", (9, "drop", "a")))
        raised(self, NothingBack, "redo", copies.redo, (0,))
        copies.undo((0,))
        raised(self, NothingBack, "undo", copies.undo, (0,))
        copies.edit((0,), ("in", (9, "drop", "b")))
        raised(self, NothingBack, "redo", copies.redo, ())
        self.assertEqual((len(copies), copies.line()), (3, ((3,), ())))


class Limits(unittest.TestCase):
    def test_sixty_edits_undos_and_redos(self):
        copies = Copies(2)
        copies.edit((0,), ("in", (1, "drop", "a")))
        for _ in range(29):
            copies.undo((0,))
            copies.redo((1,))
        copies.edit((0,), ("in", (2, "drop", "a")))
        self.assertEqual((len(copies), copies.line()), (60, ((1, 60), ())))
        self.refuses_more(copies, ("in", (3, "drop", "a")), ("redo",))

    def test_a_redo_too_many(self):
        copies = Copies(2)
        copies.edit((0,), ("in", (1, "drop", "a")))
        copies.edit((0,), ("in", (2, "drop", "a")))
        for _ in range(28):
            copies.undo((0,))
            copies.redo((1,))
        copies.undo((0,))
        copies.undo((0,))
        self.assertEqual((len(copies), copies.line()), (60, ((), (1, 2))))
        self.refuses_more(copies, ("in", (3, "drop", "a")), ("undo",))

    def refuses_more(self, copies, change, nothing):
        twin = copies.twin()
        raised(self, TooMany, 60, copies.edit, (0,), change)
        raised(self, NoChange, 5, copies.edit, (0,), 5)
        for word, call in (("undo", copies.undo), ("redo", copies.redo)):
            if word in nothing:
                raised(self, NothingBack, word, call, (0,))
            else:
                raised(self, TooMany, 60, call, (0,))
            raised(self, NoLot, 5, call, 5)
        self.assertTrue(copies == twin)
        self.assertEqual((len(copies), copies.line(), copies.past().deeds()), (60, twin.line(), twin.past().deeds()))
        self.assertEqual(copies.records(0), twin.records(0))

    def test_sixty_deeds(self):
        copies = Copies(2, Past(SIXTY))
        twin = copies.twin()
        raised(self, TooMany, 60, copies.edit, (0,), ("in", (61, "drop", "a")))
        raised(self, NoChange, ("in", (60, "drop", "a")), copies.edit, (0,), ("in", (60, "drop", "a")))
        self.assertTrue(copies == twin)
        self.assertEqual((len(copies), copies.records(0)), (0, twin.records(0)))
        copies.edit((0,), ("out", 7))
        copies.edit((0,), ("in", (61, "drop", "a")))
        raised(self, TooMany, 60, copies.edit, (0,), ("in", (62, "drop", "a")))
        copies.undo(())
        copies.undo((1,))
        self.assertTrue(copies.past() == Past(SIXTY))
        self.assertEqual((copies.lacks((0,)), copies.lacks((1,)), copies.lacks((0, 1))), ([7, 61], [], [61]))


class Twins(unittest.TestCase):
    def test_twins_go_on_by_themselves(self):
        copies = Copies(2, Past([PUT]))
        copies.edit((0,), ("in", (9, "drop", "a")))
        copies.edit((1,), ("out", 9))
        copies.undo((0,))
        twin = copies.twin()
        self.assertTrue(copies == twin and twin == copies)
        self.assertIsNot(copies, twin)
        twin.redo((0, 1))
        self.assertTrue(copies != twin)
        self.assertEqual((len(copies), len(twin), copies.line(), twin.line()), (3, 4, ((1,), (2,)), ((1, 2), ())))
        copies.redo((0, 1))
        self.assertTrue(copies == twin)
        copies.undo((0,))
        copies.undo((0,))
        self.assertEqual((copies.past().deeds(), twin.past().deeds()), ([PUT_IN_ORDER], [PUT_IN_ORDER]))
        self.assertEqual((copies.line(), twin.line()), (((), (1, 2)), ((1, 2), ())))
        twin.undo((0,))
        twin.undo((0,))
        self.assertTrue(copies == twin)

    def test_equal(self):
        self.assertTrue(Copies(2) == Copies(2))
        self.assertFalse(Copies(2) == Copies(3))
        self.assertFalse(Copies(2) == Copies(2, Past([PUT])))
        for other in (None, 2, [], Past(), True):
            self.assertFalse(Copies(2) == other)
        one, other = Copies(2), Copies(2)
        one.edit((0,), ("in", PUT))
        other.edit((1,), ("in", PUT))
        self.assertFalse(one == other)
        other = Copies(2)
        other.edit((0,), ("in", PUT_IN_ORDER))
        self.assertTrue(one == other)

    def test_the_same_edits_in_another_line_are_unlike(self):
        one, other = Copies(1), Copies(1)
        for copies in (one, other):
            copies.edit((0,), ("in", PUT))
        one.undo((0,))
        other.edit((0,), ("out", 5))
        self.assertEqual(one.edits(), other.edits())
        self.assertEqual((one.line(), other.line()), (((), (1,)), ((1, 2), ())))
        self.assertFalse(one == other)

    def test_the_same_edits_of_another_first_past_are_unlike(self):
        one, other = Copies(1, Past([(1, "drop", "a")])), Copies(1, Past([(1, "drop", "b")]))
        for copies in (one, other):
            copies.edit((0,), ("out", 1))
        self.assertTrue(one.past() == other.past())
        self.assertFalse(one == other)


if __name__ == "__main__":
    unittest.main()
