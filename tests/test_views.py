import random
import unittest
from itertools import combinations, product

from plainstore.copies import Copies
from plainstore.errors import NoCopies, NoCount, NoEdit, NoKey, NoMoment, NoName, NoNeed, NoVotes, TooMany
from plainstore.pasts import Past
from plainstore.views import answers_of, heard, is_settled, may_see, needs_yet, unfinished
from tests.kinds import odd_values, raised
from tests.plainly import answer_at, lots_of, plainly_enough
from tests.reckon import NAMES, some_deed, some_deeds

CALLS = (unfinished, needs_yet, heard, may_see, answers_of, is_settled)


def moment_of(change):
    return change[1] if change[0] == "out" else change[1][0]


def records_of(copies):
    """The unlike records (moment, number, deed) with the copies on which they lie."""
    lying = {}
    for copy in range(copies.many):
        for record in copies.records(copy):
            lying.setdefault(record, set()).add(copy)
    return lying


def views_of(copies, votes, need, unruly):
    """All views, each a list of the records that it sees."""
    lying = records_of(copies)
    for lot in lots_of(copies.many):
        if plainly_enough(votes, need, unruly, lot):
            for wild in [some for size in range(unruly + 1) for some in combinations(lot, size)]:
                ruly = set(lot) - set(wild)
                sure = [record for record in lying if lying[record] & ruly]
                perhaps = [record for record in lying if lying[record] & set(wild) and not lying[record] & ruly]
                for choice in product((False, True), repeat=len(perhaps)):
                    yield sure + [record for record, is_seen in zip(perhaps, choice) if is_seen]


def last_at(view, moment):
    return max([record[1] for record in view if record[0] == moment], default=0)


def deeds_of(view):
    told = []
    for moment in {record[0] for record in view}:
        deed = max([record for record in view if record[0] == moment], key=lambda record: record[1])[2]
        told += [] if deed is None else [deed]
    return told


def led(rng, count, votes, need, steps, most_unfinished=4, close=4):
    """Copies that were edited, undone and redone, with so many unfinished edits at most."""
    copies = Copies(count, Past(some_deeds(rng, rng.choice((0, 1, 3)), max(3, close), 2)))
    for _ in range(steps):
        lot = rng.choice(lots_of(count))
        few = sum(votes[copy] for copy in lot) < need
        if few and (len(unfinished(copies, votes, need)) >= most_unfinished or rng.random() < 0.3):
            lot = tuple(range(count))
        word = rng.choice(("edit", "edit", "edit", "undo", "redo"))
        done, undone = copies.line()
        if word == "undo" and done:
            copies.undo(lot)
        elif word == "redo" and undone:
            copies.redo(lot)
        else:
            moment = rng.randrange(1, close + 1)
            copies.edit(lot, ("out", moment) if moment in copies.past() else ("in", some_deed(rng, moment, 2)))
    return copies


def some_copies(seed, tries):
    rng = random.Random(seed)
    for _ in range(tries):
        count = rng.choice((1, 2, 3, 3, 4))
        votes = tuple(rng.choice((1, 1, 1, 2, 0, 3)) for _ in range(count))
        votes = votes if sum(votes) else (1,) * count
        need = rng.randrange(1, sum(votes) + 1)
        unruly = rng.choice((0, 1, 1, 2))
        yield led(rng, count, votes, need, rng.randrange(9)), votes, need, min(unruly, count)


class Edits(unittest.TestCase):
    def test_unfinished_and_needs(self):
        for copies, votes, need, _ in some_copies(80, 120):
            plain = []
            for number, (lot, _) in enumerate(copies.edits(), 1):
                own = sum(votes[copy] for copy in lot)
                plain += [number] if own < need else []
                others = [copy for copy in range(copies.many) if copy not in lot]
                sizes = [len(more) for size in range(len(others) + 1) for more in combinations(others, size)
                         if own + sum(votes[copy] for copy in more) >= need]
                self.assertEqual(needs_yet(copies, votes, need, number), min(sizes))
            self.assertEqual(unfinished(copies, votes, need), plain)

    def test_undos_and_redos_are_edits_too(self):
        copies = Copies(2)
        copies.edit((0, 1), ("in", (1, "drop", "a")))
        copies.undo((1,))
        copies.redo(())
        self.assertEqual(unfinished(copies, (1, 1), 2), [2, 3])
        self.assertEqual([needs_yet(copies, (1, 1), 2, number) for number in (1, 2, 3)], [0, 1, 2])
        self.assertEqual(needs_yet(number=3, need=9, votes=(1, 9), copies=copies), 1)
        self.assertEqual(heard(copies, (1, 1), 2, 0), [1])

    def test_heard(self):
        for copies, votes, need, unruly in some_copies(81, 150):
            enough = [lot for lot in lots_of(copies.many) if plainly_enough(votes, need, unruly, lot)]
            plain = [number for number, (lot, _) in enumerate(copies.edits(), 1)
                     if all(len(set(lot) & set(read)) > unruly for read in enough)]
            self.assertEqual(heard(copies, votes, need, unruly), plain)
            for number, (lot, _) in enumerate(copies.edits(), 1):
                if sum(votes[copy] for copy in lot) >= need:
                    self.assertIn(number, plain)

    def test_unfinished_ones_may_be_heard(self):
        copies = Copies(3)
        copies.edit((0,), ("in", (1, "drop", "a")))
        self.assertEqual((unfinished(copies, (2, 1, 1), 3), heard(copies, (2, 1, 1), 3, 0)), ([1], []))
        self.assertEqual((unfinished(copies, (2, 1, 1), 2), heard(copies, (2, 1, 1), 2, 0)), ([], [1]))
        copies.edit((0, 1), ("in", (2, "drop", "a")))
        self.assertEqual((unfinished(copies, (3, 1, 1), 5), heard(copies, (3, 1, 1), 5, 0)), ([1, 2], []))
        copies = Copies(3)
        copies.edit((0, 1), ("in", (1, "drop", "a")))
        copies.edit((0, 2), ("in", (2, "drop", "a")))
        copies.edit((2,), ("in", (3, "drop", "a")))
        self.assertEqual((unfinished(copies, (1, 1, 5), 6), heard(copies, (1, 1, 5), 6, 1)), ([1, 3], [1, 2]))

    def test_no_lot_is_enough(self):
        copies = Copies(2, Past([(1, "add", "a", 5)]))
        copies.edit((), ("in", (2, "drop", "a")))
        self.assertEqual(heard(copies, (1, 1), 1, 1), [1])
        self.assertEqual(may_see(copies, (1, 1), 1, 1, 2), [])
        self.assertEqual(answers_of(copies, (1, 1), 1, 1, 0, "a", 2), [])
        self.assertIs(is_settled(copies, (1, 1), 1, 1, 0, "a", 2), True)
        self.assertIs(is_settled(copies, (1, 1), 2, 2, 0, "a", 2), True)


class Views(unittest.TestCase):
    def test_beside_going_through_all_views(self):
        for copies, votes, need, unruly in some_copies(82, 120):
            views = list(views_of(copies, votes, need, unruly))
            for moment in (1, 2, 3, 4, 999):
                plain = sorted({last_at(view, moment) for view in views})
                self.assertEqual(may_see(copies, votes, need, unruly, moment), plain)
            unlike = {tuple(sorted(deeds_of(view))) for view in views}
            for key, name, t in product((0, 1), NAMES[:3], (0, 2, 4)):
                answers = {answer_at(deeds, key, name, t) for deeds in unlike}
                plain = sorted(answers, key=lambda answer: (not isinstance(answer, str), answer))
                self.assertEqual(answers_of(copies, votes, need, unruly, key, name, t), plain)
                self.assertIs(is_settled(copies, votes, need, unruly, key, name, t), len(plain) <= 1)

    def test_unlike_answers(self):
        copies = Copies(3, Past([(2, "put", 0, (("a", 8),)), (3, "put", 1, ())]))
        copies.edit((0,), ("in", (1, "add", "a", 9)))
        copies.edit((1,), ("in", (4, "strike", 0)))
        copies.edit((2,), ("in", (5, "put", 0, (("a", 3),))))
        told = answers_of(copies, (1, 1, 1), 2, 0, 0, "a", 9)
        self.assertEqual(told, ["no column", "no row", 3])
        self.assertEqual(answers_of(t=4, name="a", key=0, unruly=0, need=2, votes=(1, 1, 1), copies=copies),
                         ["no column", "no row", 8])
        self.assertEqual(answers_of(copies, (1, 1, 1), 2, 0, 1, "a", 999), ["no column", 9])
        self.assertIs(is_settled(t=2, name="a", key=1, unruly=0, need=2, votes=(1, 1, 1), copies=copies), False)
        self.assertIs(is_settled(copies, (1, 1, 1), 2, 0, 1, "b", 999), True)
        told.clear()
        self.assertEqual(len(answers_of(copies, (1, 1, 1), 2, 0, 0, "a", 9)), 3)

    def test_numbers_ascend(self):
        copies = Copies(2, Past([(1, "add", "a", 9), (2, "put", 0, ())]))
        copies.edit((0,), ("in", (3, "put", 0, (("a", 10),))))
        copies.edit((0,), ("in", (4, "put", 0, (("a", 2),))))
        self.assertEqual(answers_of(copies, (9, 2), 10, 1, 0, "a", 9), [2, 9, 10])
        self.assertEqual(answers_of(copies, (1, 1), 2, 0, 0, "a", 9), [2, 9])
        copies = Copies(3, Past([(1, "add", "a", 9), (2, "put", 0, ())]))
        copies.edit((0,), ("in", (3, "put", 0, (("a", 10),))))
        copies.edit((1,), ("in", (4, "put", 0, (("a", 2),))))
        self.assertEqual(answers_of(copies, (1, 1, 1), 3, 1, 0, "a", 9), [2, 9, 10])

    def test_last_ones_at_a_moment(self):
        copies = Copies(3, Past([(7, "drop", "a")]))
        copies.edit((0, 1, 2), ("out", 7))
        copies.edit((0,), ("in", (7, "drop", "b")))
        copies.edit((1,), ("out", 7))
        self.assertEqual(may_see(copies, (1, 1, 1), 2, 0, 7), [2, 3])
        self.assertEqual(may_see(copies, (1, 1, 1), 3, 0, 7), [1, 2, 3])
        self.assertEqual(may_see(moment=8, unruly=0, need=3, votes=(1, 1, 1), copies=copies), [0])
        self.assertEqual(may_see(Copies(1, Past([(7, "drop", "a")])), (1,), 1, 0, 7), [0])

    def test_unruly_copies_may_show_some_records_and_not_others(self):
        copies = Copies(3)
        copies.edit((0, 1, 2), ("in", (7, "drop", "a")))
        copies.edit((0,), ("out", 7))
        copies.edit((0,), ("in", (7, "drop", "b")))
        self.assertEqual(may_see(copies, (1, 1, 1), 2, 1, 7), [1, 2, 3])
        self.assertEqual(may_see(copies, (1, 1, 1), 2, 0, 7), [1, 3])
        copies.edit((0, 1), ("out", 7))
        self.assertEqual(may_see(copies, (1, 1, 1), 2, 1, 7), [4])
        rng = random.Random(83)
        for _ in range(40):
            copies = led(rng, 3, (1, 1, 1), 2, 8, 4, 1)
            views = list(views_of(copies, (1, 1, 1), 2, 1))
            self.assertEqual(may_see(copies, (1, 1, 1), 2, 1, 1), sorted({last_at(view, 1) for view in views}))

    def test_more_deeds_than_a_past_may_have(self):
        first = [(moment, "strike", 0) for moment in range(1, 60)] + [(60, "add", "a", 5)]
        copies = Copies(3, Past(first))
        copies.edit((0,), ("out", 1))
        copies.edit((0, 1, 2), ("in", (61, "put", 0, (("a", 7),))))
        self.assertEqual(may_see(copies, (1, 1, 1), 2, 0, 1), [0, 1])
        self.assertEqual(answers_of(copies, (1, 1, 1), 2, 0, 0, "a", 61), [7])
        copies.edit((1,), ("out", 60))
        copies.edit((0, 1, 2), ("in", (900, "put", 1, ())))
        self.assertEqual(answers_of(copies, (1, 1, 1), 2, 0, 1, "a", 900), ["no column", 5])

    def test_four_unfinished_edits_and_more(self):
        copies = Copies(2, Past([(1, "add", "a", 0), (2, "put", 0, ())]))
        for moment in (3, 4, 5, 6):
            copies.edit((moment % 2,), ("in", (moment, "put", 0, (("a", moment),))))
        self.assertEqual(answers_of(copies, (1, 1), 2, 0, 0, "a", 9), [5, 6])
        self.assertEqual(answers_of(copies, (2, 1), 3, 1, 0, "a", 9), [5, 6])
        copies.undo((1,))
        self.assertEqual(unfinished(copies, (1, 1), 2), [1, 2, 3, 4, 5])
        for call in (answers_of, is_settled):
            raised(self, TooMany, 4, call, copies, (1, 1), 2, 0, 0, "a", 9)
            raised(self, TooMany, 4, call, copies, (1, 1), 2, 2, 0, "a", 9)
            raised(self, NoMoment, -1, call, copies, (1, 1), 2, 0, 0, "a", -1)
        self.assertEqual(may_see(copies, (1, 1), 2, 0, 6), [4, 5])
        self.assertEqual(len(copies), 5)


class Refusals(unittest.TestCase):
    def setUp(self):
        self.copies = Copies(2, Past([(1, "add", "a", 0)]))
        self.copies.edit((0,), ("out", 1))
        self.more = {unfinished: 0, needs_yet: 1, heard: 1, may_see: 2, answers_of: 4, is_settled: 4}

    def test_copies_votes_and_needs(self):
        for call in CALLS:
            more = [None] * self.more[call]
            for value in odd_values() + [Past()]:
                raised(self, NoCopies, value, call, value, None, None, *more)
            for value in odd_values() + [(1,), (1, 1, 1), (0, 0), (1, 10), [1, 1], (1, True)]:
                raised(self, NoVotes, value, call, self.copies, value, None, *more)
            for value in odd_values() + [0, 3]:
                raised(self, NoNeed, value, call, self.copies, (1, 1), value, *more)

    def test_unruly(self):
        for call in (heard, may_see, answers_of, is_settled):
            for value in odd_values() + [3]:
                raised(self, NoCount, value, call, self.copies, (1, 1), 2, value, *[None] * (self.more[call] - 1))

    def test_the_others(self):
        for value in odd_values() + [0, 2]:
            raised(self, NoEdit, value, needs_yet, self.copies, (1, 1), 2, value)
        for value in odd_values() + [0, 1000]:
            raised(self, NoMoment, value, may_see, self.copies, (1, 1), 2, 0, value)
        for call in (answers_of, is_settled):
            for value in odd_values() + [10]:
                raised(self, NoKey, value, call, self.copies, (1, 1), 2, 0, value, None, None)
            for value in (None, "", "A", "abcde", 1, ["a"]):
                raised(self, NoName, value, call, self.copies, (1, 1), 2, 0, 0, value, None)
            for value in odd_values() + [1000]:
                raised(self, NoMoment, value, call, self.copies, (1, 1), 2, 0, 0, "a", value)
        self.assertEqual(self.copies.edits(), [((0,), ("out", 1))])


if __name__ == "__main__":
    unittest.main()
