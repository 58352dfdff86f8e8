import random
import unittest

from plainstore.changes import are_apart, changed, is_change, opposite, shown, touched
from plainstore.errors import NoChange, NoMoment, NoPast, TooMany
from plainstore.pasts import Past
from tests.kinds import odd_values, raised
from tests.reckon import END, behind, some_deed, some_deeds, some_pasts, states, stretches

LINES = ("columns",) + tuple(range(10))
SIXTY = [(moment, "strike", 0) for moment in range(1, 61)]
NOT_CHANGES = [
    ("in", 5), ("out", (5, "strike", 0)), ("In", (1, "drop", "a")), ("out",), ("in",), ("out", 5, 5), ["out", 5],
    ("in", [7, "strike", 0]), ("in", (7, "strike", 10)), ("in", (5, "drop", "a")), ("in", (5, "strike", 0)), ("out", 6),
    ("out", True), ("out", 5.0), ("out", "5"), ("out", None), (5, "out"), (None, 5), "out", b"in", ("out", (5,)),
]


def plain_lines(one, other, line_of):
    """The stretches of the lines that are unlike, moment by moment, in two lists of states."""
    told = {}
    for line in LINES:
        unlike = [t for t in range(1, END + 1) if line_of(one[t], line) != line_of(other[t], line)]
        if unlike:
            told[line] = stretches(unlike)
    return told


def touched_line(state, line):
    return state.map() if line == "columns" else state.cells(line)


def shown_line(state, line):
    return state.names() if line == "columns" else state.row(line) or None


def plain_touched(deeds, change):
    return plain_lines(states(deeds), states(behind(deeds, change)), touched_line)


def moments_of(lines):
    return {(line, t) for line in lines for first, last in lines[line] for t in range(first, last + 1)}


def plain_apart(deeds, one, other):
    by_one, by_other = plain_touched(deeds, one), plain_touched(deeds, other)
    if moments_of(by_one) & moments_of(by_other):
        return False
    return (by_one, by_other) == (
        plain_touched(behind(deeds, other), one), plain_touched(behind(deeds, one), other),
    )


def moment_of(change):
    return change[1][0] if change[0] == "in" else change[1]


def some_change(rng, deeds, last=END):
    taken = [deed[0] for deed in deeds]
    if taken and rng.random() < 0.5:
        return ("out", rng.choice(taken))
    return ("in", some_deed(rng, rng.choice([t for t in range(1, last + 1) if t not in taken])))


class IsChange(unittest.TestCase):
    def setUp(self):
        self.past = Past([(5, "put", 0, ()), (9, "add", "a", 1)])

    def test_changes(self):
        for change in (
            ("out", 5), ("out", 9), ("in", (1, "strike", 0)), ("in", (999, "drop", "a")), ("in", (6, "add", "a", 1)),
            ("in", (7, "put", 3, (("b", 1), ("a", 2)))),
        ):
            self.assertIs(is_change(self.past, change), True)
        self.assertIs(is_change(value=("out", 5), past=self.past), True)

    def test_any_value(self):
        for value in odd_values() + NOT_CHANGES:
            self.assertIs(is_change(self.past, value), False)
            self.assertIs(is_change(self.past, ("in", value)), False)
            self.assertIs(is_change(self.past, ("out", value)), False)
        for value in odd_values():
            self.assertIs(is_change(self.past, (value, 5)), False)
            self.assertIs(is_change(self.past, (value, (7, "drop", "a"))), False)
        self.assertIs(is_change(Past(), ("out", 5)), False)

    def test_with_sixty_deeds(self):
        self.assertIs(is_change(Past(SIXTY), ("in", (61, "strike", 0))), True)
        self.assertIs(is_change(Past(SIXTY), ("in", (60, "strike", 1))), False)
        self.assertIs(is_change(Past(SIXTY), ("out", 60)), True)


class Changed(unittest.TestCase):
    def setUp(self):
        self.past = Past([(5, "put", 0, (("b", 1), ("a", 2))), (9, "add", "a", 1)])

    def test_changed(self):
        other = changed(self.past, ("in", (7, "put", 3, (("b", 1), ("a", 2)))))
        first, last = self.past.deeds()
        self.assertEqual(other.deeds(), [first, (7, "put", 3, (("a", 2), ("b", 1))), last])
        self.assertEqual(changed(self.past, ("out", 5)).deeds(), [(9, "add", "a", 1)])
        self.assertEqual(changed(change=("out", 9), past=self.past).listed(), [5])
        self.assertEqual(self.past.listed(), [5, 9])
        self.assertIs(other.__class__, Past)

    def test_opposite(self):
        self.assertEqual(opposite(self.past, ("out", 5)), ("in", (5, "put", 0, (("a", 2), ("b", 1)))))
        self.assertEqual(opposite(self.past, ("in", (7, "drop", "a"))), ("out", 7))
        self.assertEqual(opposite(change=("out", 9), past=self.past), ("in", (9, "add", "a", 1)))
        self.assertEqual(opposite(Past(SIXTY), ("in", (61, "drop", "a"))), ("out", 61))

    def test_the_opposite_takes_back(self):
        rng = random.Random(7)
        for deeds in some_pasts(7, 32):
            past = Past(deeds)
            change = ("out", rng.choice(deeds)[0]) if len(deeds) == 60 else some_change(rng, deeds)
            other = changed(past, change)
            self.assertEqual(other.deeds(), behind(deeds, change))
            self.assertTrue(changed(other, opposite(past, change)) == past)
            self.assertEqual(opposite(other, opposite(past, change)), change)

    def test_one_deed_too_many(self):
        raised(self, TooMany, 60, changed, Past(SIXTY), ("in", (61, "strike", 0)))
        raised(self, NoChange, ("in", (60, "strike", 1)), changed, Past(SIXTY), ("in", (60, "strike", 1)))
        self.assertEqual(len(changed(Past(SIXTY), ("out", 7))), 59)
        self.assertEqual(len(changed(Past(SIXTY[1:]), ("in", (999, "strike", 0)))), 60)


class Lines(unittest.TestCase):
    def test_columns_and_keys(self):
        past = Past([(2, "put", 4, ()), (3, "put", 1, ()), (8, "strike", 4)])
        told = touched(past, ("in", (5, "add", "a", 1)))
        self.assertEqual(told, {"columns": ((5, 999),), 1: ((5, 999),), 4: ((5, 7),)})
        self.assertEqual(list(told), ["columns", 1, 4])
        told = shown(past, ("in", (5, "add", "a", 1)))
        self.assertEqual(told, {"columns": ((5, 999),), 1: ((5, 999),), 4: ((5, 7),)})
        self.assertEqual(list(told), ["columns", 1, 4])

    def test_only_lines_that_are(self):
        past = Past([(2, "add", "a", 1), (3, "put", 1, ())])
        for deed in ((4, "add", "a", 2), (4, "strike", 0), (1, "drop", "a"), (4, "put", 1, ())):
            self.assertEqual((touched(past, ("in", deed)), shown(past, ("in", deed))), ({}, {}))
        self.assertEqual(touched(past, ("in", (4, "put", 1, (("a", 2),)))), {1: ((4, 999),)})

    def test_another_column_of_the_same_name_is_touched_but_not_shown(self):
        past = Past([(1, "add", "a", 1), (2, "put", 1, ()), (5, "add", "a", 1)])
        told = touched(past, ("out", 1))
        self.assertEqual(told, {"columns": ((1, 999),), 1: ((2, 999),)})
        self.assertEqual(shown(past, ("out", 1)), {"columns": ((1, 4),), 1: ((2, 4),)})

    def test_names_that_change_places_are_not_shown_as_columns(self):
        past = Past([
            (1, "add", "a", 1), (2, "add", "b", 1), (3, "rename", "a", "c"), (4, "rename", "b", "a"),
            (5, "rename", "c", "b"), (6, "put", 0, ()), (8, "put", 1, (("a", 3),)),
        ])
        self.assertEqual(touched(past, ("out", 3)), {"columns": ((3, 999),), 1: ((8, 999),)})
        self.assertEqual(shown(past, ("out", 3)), {"columns": ((3, 4),)})

    def test_a_row_without_columns(self):
        past = Past([(3, "add", "a", 1), (5, "drop", "a")])
        change = ("in", (1, "put", 0, ()))
        self.assertEqual((touched(past, change), shown(past, change)), ({0: ((1, 999),)}, {0: ((3, 4),)}))

    def test_greatest_stretches(self):
        past = Past([
            (1, "add", "a", 1), (2, "put", 0, ()), (4, "put", 0, (("a", 1),)), (6, "put", 0, (("a", 9),)),
            (7, "strike", 0),
        ])
        self.assertEqual(touched(past, ("out", 2)), {0: ((2, 3),)})
        self.assertEqual(touched(past, ("out", 1)), {"columns": ((1, 999),), 0: ((2, 6),)})
        self.assertEqual(touched(past, ("in", (3, "put", 0, (("a", 1),)))), {})
        self.assertEqual(touched(Past(), ("in", (999, "add", "a", 0))), {"columns": ((999, 999),)})
        gone = Past([(1, "add", "a", 0), (3, "drop", "a"), (5, "add", "a", 0), (7, "drop", "a")])
        self.assertEqual(shown(gone, ("in", (4, "add", "a", 0))), {"columns": ((4, 4),)})
        self.assertEqual(touched(gone, ("in", (4, "add", "a", 0))), {"columns": ((4, 6),)})
        kept = Past([(3, "drop", "a"), (5, "add", "a", 0), (7, "drop", "a")])
        self.assertEqual(shown(kept, ("in", (1, "add", "a", 0))), {"columns": ((1, 2),)})
        two = Past([(4, "rename", "a", "b"), (6, "add", "a", 0), (8, "drop", "b")])
        self.assertEqual(shown(two, ("in", (1, "add", "a", 0))), {"columns": ((1, 7),)})
        apart = Past([(2, "add", "a", 0), (4, "drop", "a"), (6, "add", "a", 0)])
        self.assertEqual(shown(apart, ("in", (1, "add", "a", 0))), {"columns": ((1, 1),)})

    def test_several_stretches(self):
        past = Past([(2, "put", 0, ()), (4, "strike", 0), (6, "put", 0, ()), (8, "strike", 0), (9, "put", 3, ())])
        told = touched(past, ("in", (1, "add", "a", 0)))
        self.assertEqual(told, {"columns": ((1, 999),), 0: ((2, 3), (6, 7)), 3: ((9, 999),)})

    def test_beside_both_whole_pasts(self):
        rng = random.Random(8)
        for deeds in some_pasts(8, 56):
            past = Past(deeds)
            for _ in range(3):
                change = some_change(rng, deeds)
                one, other = states(deeds), states(behind(deeds, change))
                told = touched(past, change)
                self.assertEqual(told, plain_lines(one, other, touched_line))
                self.assertEqual(list(told), [line for line in LINES if line in told])
                told = shown(past, change)
                self.assertEqual(told, plain_lines(one, other, shown_line))
                self.assertEqual(list(told), [line for line in LINES if line in told])

    def test_every_taking_out_of_sixty(self):
        rng = random.Random(9)
        deeds = some_deeds(rng, 60, 90)
        one = states(deeds)
        for deed in deeds[::3]:
            other = states(behind(deeds, ("out", deed[0])))
            self.assertEqual(touched(Past(deeds), ("out", deed[0])), plain_lines(one, other, touched_line))
            self.assertEqual(shown(Past(deeds), ("out", deed[0])), plain_lines(one, other, shown_line))

    def test_a_sixty_first_deed(self):
        rng = random.Random(10)
        for _ in range(8):
            deeds = some_deeds(rng, 60, 80)
            change = ("in", some_deed(rng, rng.choice([t for t in range(1, 90) if t not in Past(deeds)])))
            self.assertEqual(touched(Past(deeds), change), plain_touched(deeds, change))

    def test_told_may_be_changed(self):
        past = Past([(2, "put", 4, ())])
        touched(past, ("out", 2)).clear()
        shown(past.with_deed((1, "add", "a", 0)), ("out", 2)).clear()
        self.assertEqual(touched(past, ("out", 2)), {4: ((2, 999),)})

    def test_by_name(self):
        past = Past([(1, "add", "a", 0), (2, "put", 4, ())])
        self.assertEqual(touched(change=("out", 2), past=past), {4: ((2, 999),)})
        self.assertEqual(shown(change=("out", 2), past=past), {4: ((2, 999),)})


class Apart(unittest.TestCase):
    def test_by_hand(self):
        past = Past([(1, "add", "a", 0), (4, "put", 0, ()), (8, "strike", 0), (9, "put", 1, ())])
        self.assertIs(are_apart(past, ("out", 4), ("out", 9)), True)
        self.assertIs(are_apart(past, ("in", (2, "put", 0, ())), ("in", (5, "put", 0, (("a", 7),)))), True)
        self.assertIs(are_apart(past, ("in", (2, "put", 0, ())), ("in", (3, "strike", 0))), False)
        self.assertIs(are_apart(past, ("in", (2, "strike", 0)), ("in", (3, "strike", 0))), True)
        self.assertIs(are_apart(past, ("in", (5, "put", 0, (("a", 7),))), ("in", (6, "put", 0, (("a", 8),)))), False)
        self.assertIs(are_apart(past, ("in", (2, "add", "b", 0)), ("out", 9)), False)
        self.assertIs(are_apart(past, ("in", (10, "drop", "b")), ("in", (11, "drop", "a"))), True)

    def test_one_moment_in_common(self):
        past = Past([(1, "add", "a", 0), (2, "add", "b", 0), (6, "drop", "a")])
        one, other = ("in", (4, "drop", "a")), ("in", (5, "drop", "b"))
        self.assertEqual((touched(past, one), touched(past, other)), ({"columns": ((4, 5),)}, {"columns": ((5, 999),)}))
        self.assertIs(are_apart(past, one, other), False)
        self.assertIs(are_apart(past, other, one), False)
        other = ("in", (7, "drop", "b"))
        self.assertIs(are_apart(past, one, other), True)
        self.assertIs(are_apart(past, other, one), True)

    def test_what_one_touches_only_behind_the_other(self):
        past = Past([(9, "put", 1, ())])
        self.assertIs(are_apart(past, ("in", (2, "drop", "a")), ("in", (1, "add", "a", 0))), False)
        self.assertIs(are_apart(past, ("in", (1, "add", "a", 0)), ("in", (2, "drop", "a"))), False)

    def test_what_is_touched_less_behind_the_other(self):
        past = Past([(1, "put", 0, ()), (3, "strike", 0)])
        self.assertIs(are_apart(past, ("out", 1), ("in", (2, "add", "a", 0))), False)
        self.assertIs(are_apart(past, ("in", (2, "strike", 0)), ("in", (4, "put", 0, ()))), True)
        self.assertIs(are_apart(past, ("in", (2, "strike", 0)), ("out", 3)), False)

    def test_beside_both_whole_pasts(self):
        rng = random.Random(11)
        told = []
        for deeds in some_pasts(11, 40):
            past = Past(deeds)
            for _ in range(3):
                one, other = some_change(rng, deeds), some_change(rng, deeds)
                if moment_of(one) == moment_of(other):
                    raised(self, NoMoment, moment_of(one), are_apart, past, one, other)
                    continue
                right = plain_apart(deeds, one, other)
                self.assertIs(are_apart(past, one, other), right)
                self.assertIs(are_apart(other=one, one=other, past=past), right)
                told.append(right)
        self.assertTrue(10 < sum(told) < len(told) - 10)

    def test_small_pasts_of_all_kinds(self):
        rng = random.Random(12)
        told = []
        for _ in range(150):
            deeds = some_deeds(rng, rng.randrange(1, 7), 9, 1)
            one, other = some_change(rng, deeds, 10), some_change(rng, deeds, 10)
            if moment_of(one) != moment_of(other):
                right = plain_apart(deeds, one, other)
                self.assertIs(are_apart(Past(deeds), one, other), right)
                told.append(right)
        self.assertTrue(10 < sum(told) < len(told) - 10)

    def test_two_more_than_sixty(self):
        past = Past(SIXTY)
        self.assertIs(are_apart(past, ("in", (61, "put", 1, ())), ("in", (62, "put", 2, ()))), True)
        self.assertIs(are_apart(past, ("in", (61, "add", "a", 1)), ("in", (62, "drop", "a"))), False)


class Refusals(unittest.TestCase):
    def test_no_past(self):
        for value in odd_values() + [[(1, "add", "a", 1)]]:
            for call in (is_change, changed, opposite, touched, shown):
                raised(self, NoPast, value, call, value, None)
            raised(self, NoPast, value, are_apart, other=None, one=None, past=value)

    def test_no_change(self):
        past = Past([(5, "put", 0, ()), (9, "add", "a", 1)])
        for value in odd_values() + NOT_CHANGES:
            for call in (changed, opposite, touched, shown):
                raised(self, NoChange, value, call, past, value)
            raised(self, NoChange, value, are_apart, past, value, None)
            raised(self, NoChange, value, are_apart, past, ("out", 5), value)
            change = ("in", value)
            for call in (changed, opposite, touched, shown):
                raised(self, NoChange, change, call, past, change)

    def test_one_moment(self):
        past = Past([(5, "put", 0, ())])
        raised(self, NoMoment, 5, are_apart, past, ("out", 5), ("out", 5))
        raised(self, NoMoment, 7, are_apart, past, ("in", (7, "drop", "a")), ("in", (7, "strike", 0)))
        raised(self, NoChange, ("out", 7), are_apart, past, ("in", (7, "drop", "a")), ("out", 7))

    def test_sixty_deeds_are_no_bar(self):
        past = Past(SIXTY)
        for call in (touched, shown):
            self.assertEqual(call(past, ("in", (61, "strike", 0))), {})
        self.assertEqual(touched(past, ("in", (61, "put", 0, ()))), {0: ((61, 999),)})


if __name__ == "__main__":
    unittest.main()
