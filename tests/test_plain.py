import unittest

from plainstore.errors import NoKey, NoMoment, NoName, NoPast
from plainstore.pasts import Past
from plainstore.plain import ask, columns_at, row_at, rows_at
from tests.kinds import odd_values, raised
from tests.reckon import END, NAMES, some_pasts, states


def last_columns(deeds):
    return columns_at(Past(deeds), END)


class Deeds(unittest.TestCase):
    """Each kind of deed, by hand."""

    def test_empty(self):
        for t in (0, 1, 500, 999):
            self.assertEqual((columns_at(Past(), t), rows_at(Past(), t), row_at(Past(), 0, t)), ([], {}, None))
            self.assertEqual(ask(Past(), 0, "a", t), "no column")

    def test_put(self):
        past = Past([
            (1, "add", "b", 5), (2, "add", "a", 6), (3, "put", 4, (("a", 7), ("c", 8))), (4, "put", 4, ()),
            (5, "put", 2, (("b", 0), ("a", 99))), (6, "put", 4, (("b", 1),)),
        ])
        self.assertEqual([row_at(past, 4, t) for t in (2, 3, 4, 5, 6)], [
            None, {"b": 5, "a": 7}, {"b": 5, "a": 6}, {"b": 5, "a": 6}, {"b": 1, "a": 6},
        ])
        self.assertEqual(rows_at(past, 6), {2: {"b": 0, "a": 99}, 4: {"b": 1, "a": 6}})

    def test_strike(self):
        past = Past([(1, "add", "a", 5), (2, "strike", 0), (3, "put", 0, ()), (4, "strike", 1), (5, "strike", 0)])
        self.assertEqual([row_at(past, 0, t) for t in (2, 3, 4, 5)], [None, {"a": 5}, {"a": 5}, None])
        self.assertEqual(ask(past, 0, "a", 5), "no row")

    def test_add(self):
        past = Past([(1, "put", 0, (("a", 1),)), (2, "add", "a", 5), (3, "add", "a", 6), (4, "add", "b", 0)])
        self.assertEqual([columns_at(past, t) for t in (1, 2, 3, 4)], [
            [], [("a", 5)], [("a", 5)], [("a", 5), ("b", 0)],
        ])
        self.assertEqual([row_at(past, 0, t) for t in (1, 2, 4)], [{}, {"a": 5}, {"a": 5, "b": 0}])

    def test_drop(self):
        past = Past([
            (1, "add", "a", 5), (2, "add", "b", 6), (3, "put", 0, (("a", 1), ("b", 2))), (4, "drop", "c"),
            (5, "drop", "a"), (6, "add", "a", 7), (7, "drop", "b"), (8, "drop", "b"),
        ])
        self.assertEqual([columns_at(past, t) for t in (4, 5, 6, 7, 8)], [
            [("a", 5), ("b", 6)], [("b", 6)], [("b", 6), ("a", 7)], [("a", 7)], [("a", 7)],
        ])
        self.assertEqual([row_at(past, 0, t) for t in (4, 5, 6, 7)], [
            {"a": 1, "b": 2}, {"b": 2}, {"b": 2, "a": 7}, {"a": 7},
        ])

    def test_rename(self):
        past = Past([
            (1, "add", "a", 5), (2, "add", "b", 6), (3, "put", 0, (("a", 1), ("b", 2))), (4, "rename", "a", "b"),
            (5, "rename", "c", "d"), (6, "rename", "a", "a"), (7, "rename", "a", "c"), (8, "rename", "b", "a"),
            (9, "put", 0, (("b", 3), ("a", 4))),
        ])
        self.assertEqual([columns_at(past, t) for t in (6, 7, 8)], [
            [("a", 5), ("b", 6)], [("c", 5), ("b", 6)], [("c", 5), ("a", 6)],
        ])
        self.assertEqual([row_at(past, 0, t) for t in (6, 7, 8, 9)], [
            {"a": 1, "b": 2}, {"c": 1, "b": 2}, {"c": 1, "a": 2}, {"c": 5, "a": 4},
        ])

    def test_moments_ahead_of_at_and_behind_deeds(self):
        past = Past([(999, "drop", "a"), (10, "add", "a", 1), (20, "put", 3, ())])
        self.assertEqual([ask(past, 3, "a", t) for t in (0, 9, 10, 19, 20, 21, 998, 999)], [
            "no column", "no column", "no row", "no row", 1, 1, 1, "no column",
        ])
        first = Past([(1, "add", "a", 1)])
        self.assertEqual([columns_at(first, t) for t in (0, 1)], [[], [("a", 1)]])

    def test_no_column_is_ahead_of_no_row(self):
        past = Past([(1, "add", "a", 1), (2, "put", 0, ())])
        self.assertEqual([ask(past, key, name, 2) for key in (0, 1) for name in ("a", "b")], [
            1, "no column", "no row", "no column",
        ])

    def test_orders(self):
        past = Past([(1, "add", "b", 1), (2, "add", "a", 2), (3, "put", 7, (("a", 3),)), (4, "put", 0, ())])
        self.assertEqual(list(row_at(past, 7, 4).items()), [("b", 1), ("a", 3)])
        self.assertEqual(list(rows_at(past, 4)), [0, 7])
        self.assertEqual(list(rows_at(past, 4)[7]), ["b", "a"])


class PlainReckoning(unittest.TestCase):
    def test_all_moments(self):
        for deeds in some_pasts(2, 32):
            past = Past(deeds)
            right = states(deeds)
            near = {0, 1, END}.union(*[(deed[0] - 1, deed[0], min(END, deed[0] + 1)) for deed in deeds])
            for t in sorted(near):
                self.check(past, right[t], t)

    def check(self, past, state, t):
        columns = columns_at(past, t)
        self.assertEqual(columns, [(name, fill) for _, name, fill in state.columns])
        rows = rows_at(past, t)
        self.assertEqual(list(rows), sorted(state.rows))
        for key in range(10):
            row = row_at(past, key, t)
            self.assertEqual(row, state.row(key))
            self.assertEqual(rows.get(key), row)
            if row is not None:
                self.assertEqual(list(row), [name for name, _ in columns])
                self.assertEqual(list(rows[key]), list(row))
        for name in NAMES + ("q",):
            for key in (0, 1, 9):
                right = "no row" if state.row(key) is None else state.row(key).get(name)
                self.assertEqual(ask(past, key, name, t), "no column" if state.place(name) is None else right)

    def test_each_moment_of_one_past(self):
        for deeds in some_pasts(3, 8)[5:]:
            past = Past(deeds)
            right = states(deeds)
            for t in range(0, END + 1):
                self.assertEqual(columns_at(past, t), [(name, fill) for _, name, fill in right[t].columns])
                self.assertEqual(rows_at(past, t), {key: right[t].row(key) for key in right[t].rows})

    def test_told_may_be_changed(self):
        past = Past([(1, "add", "a", 1), (2, "put", 0, ())])
        columns_at(past, 2).clear()
        row_at(past, 0, 2)["a"] = 9
        rows_at(past, 2)[0]["a"] = 9
        rows_at(past, 2).clear()
        self.assertEqual((columns_at(past, 2), row_at(past, 0, 2)), ([("a", 1)], {"a": 1}))
        self.assertEqual(rows_at(past, 2), {0: {"a": 1}})


class Refusals(unittest.TestCase):
    def setUp(self):
        self.past = Past([(1, "add", "a", 1), (2, "put", 0, ())])

    def test_no_past(self):
        for value in odd_values() + [[(1, "add", "a", 1)], self.past.deeds()]:
            raised(self, NoPast, value, columns_at, value, 1)
            raised(self, NoPast, value, rows_at, value, 1)
            raised(self, NoPast, value, row_at, value, 1, 1)
            raised(self, NoPast, value, ask, value, 1, "a", 1)

    def test_no_key(self):
        for value in odd_values() + [10, -1, "0"]:
            raised(self, NoKey, value, row_at, self.past, value, 1)
            raised(self, NoKey, value, ask, self.past, value, "a", 1)

    def test_no_name(self):
        for value in odd_values() + ["A", "abcde", 5]:
            if value.__class__ is not str or value != "put":
                raised(self, NoName, value, ask, self.past, 0, value, 1)

    def test_no_moment(self):
        for value in odd_values() + [1000, -1, "1"]:
            raised(self, NoMoment, value, columns_at, self.past, value)
            raised(self, NoMoment, value, rows_at, self.past, value)
            raised(self, NoMoment, value, row_at, self.past, 0, value)
            raised(self, NoMoment, value, ask, self.past, 0, "a", value)

    def test_in_the_order_of_the_arguments(self):
        raised(self, NoPast, None, columns_at, None, -1)
        raised(self, NoPast, None, rows_at, t=-1, past=None)
        raised(self, NoPast, None, row_at, t=-1, key=-1, past=None)
        raised(self, NoKey, 10, row_at, t=-1, key=10, past=self.past)
        raised(self, NoPast, 0, ask, t=-1, name="A", key=-1, past=0)
        raised(self, NoKey, -1, ask, t=-1, name="A", key=-1, past=self.past)
        raised(self, NoName, "A", ask, t=-1, name="A", key=0, past=self.past)
        raised(self, NoMoment, -1, ask, t=-1, name="a", key=0, past=self.past)

    def test_by_name_in_another_order(self):
        self.assertEqual(columns_at(t=2, past=self.past), [("a", 1)])
        self.assertEqual(rows_at(t=2, past=self.past), {0: {"a": 1}})
        self.assertEqual(row_at(t=2, key=0, past=self.past), {"a": 1})
        self.assertEqual(ask(t=2, name="a", key=0, past=self.past), 1)


if __name__ == "__main__":
    unittest.main()
