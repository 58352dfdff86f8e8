import unittest

from plainstore.errors import NoKey, NoMoment, NoPast
from plainstore.pasts import Past
from plainstore.plain import row_at
from plainstore.stories import cells_at, idle, map_at, story, stored_at
from tests.kinds import odd_values, raised
from tests.reckon import END, idle_moments, some_pasts, states


class Idle(unittest.TestCase):
    def test_each_kind(self):
        past = Past([
            (1, "drop", "a"), (2, "rename", "a", "b"), (3, "add", "a", 1), (4, "add", "a", 1), (5, "add", "b", 1),
            (6, "rename", "a", "b"), (7, "rename", "a", "a"), (8, "rename", "a", "c"), (9, "rename", "a", "d"),
            (10, "drop", "a"), (11, "drop", "c"), (12, "drop", "c"), (13, "strike", 4), (14, "put", 4, (("q", 1),)),
        ])
        self.assertEqual(idle(past), [1, 2, 4, 6, 7, 9, 10, 12])
        self.assertEqual(idle(past=Past()), [])

    def test_row_deeds_are_never_idle(self):
        self.assertEqual(idle(Past([(1, "strike", 0), (2, "put", 0, ()), (3, "put", 0, ())])), [])

    def test_beside_the_plain_reckoning(self):
        for deeds in some_pasts(4, 64):
            self.assertEqual(idle(Past(deeds)), idle_moments(deeds))


class Story(unittest.TestCase):
    def test_added_dropped_renamed_added_again(self):
        past = Past([
            (2, "add", "a", 5), (3, "add", "b", 6), (5, "rename", "a", "c"), (6, "rename", "c", "a"), (7, "drop", "b"),
            (8, "rename", "a", "b"), (9, "add", "a", 7), (10, "drop", "b"), (11, "add", "b", 8),
        ])
        self.assertEqual(story(past), [
            (2, 5, ((2, "a"), (5, "c"), (6, "a"), (8, "b")), 10), (3, 6, ((3, "b"),), 7), (9, 7, ((9, "a"),), None),
            (11, 8, ((11, "b"),), None),
        ])
        self.assertEqual([map_at(past, t) for t in (1, 2, 6, 7, 9, 10, 11, 999)], [
            {}, {2: "a"}, {2: "a", 3: "b"}, {2: "a"}, {2: "b", 9: "a"}, {9: "a"}, {9: "a", 11: "b"}, {9: "a", 11: "b"},
        ])

    def test_idle_alters_tell_nothing(self):
        past = Past([
            (1, "add", "a", 5), (2, "add", "a", 6), (3, "rename", "a", "a"), (4, "rename", "b", "a"), (5, "drop", "b"),
        ])
        self.assertEqual(story(past), [(1, 5, ((1, "a"),), None)])
        self.assertEqual(story(Past([(1, "drop", "a"), (2, "put", 0, ())])), [])
        self.assertEqual(story(past=Past()), [])

    def test_maps_and_stories_beside_the_plain_reckoning(self):
        for deeds in some_pasts(5, 16):
            past = Past(deeds)
            right = states(deeds)
            told = story(past)
            self.assertEqual([row[0] for row in told], sorted({own for state in right for own in state.map()}))
            for column, fill, names, end in told:
                lives = [t for t in range(END + 1) if column in right[t].map()]
                self.assertEqual((column, fill), (lives[0], {row[0]: row[2] for row in right[column].columns}[column]))
                self.assertEqual(end, None if lives[-1] == END else lives[-1] + 1)
                self.assertEqual(names, tuple(self.namings(column, lives, right)))

    def namings(self, column, lives, right):
        last = None
        for t in lives:
            name = right[t].map()[column]
            if name != last:
                yield (t, name)
            last = name


class Stored(unittest.TestCase):
    def test_stored_rows(self):
        past = Past([
            (1, "add", "a", 5), (2, "put", 0, (("b", 1), ("a", 2))), (3, "put", 1, ()), (4, "strike", 0),
            (6, "put", 0, ()), (7, "strike", 2),
        ])
        self.assertEqual([stored_at(past, 0, t) for t in (0, 1, 2, 3, 4, 5, 6, 999)], [
            None, None, (2, (("a", 2), ("b", 1))), (2, (("a", 2), ("b", 1))), None, None, (6, ()), (6, ()),
        ])
        self.assertEqual([stored_at(past, key, 999) for key in (1, 2, 3)], [(3, ()), None, None])
        self.assertEqual(stored_at(t=3, key=1, past=past), (3, ()))


class Cells(unittest.TestCase):
    def test_pairs_of_names_that_no_column_has_at_the_put(self):
        past = Past([
            (1, "add", "a", 5), (2, "put", 0, (("a", 1), ("b", 2), ("c", 3))), (3, "add", "b", 6),
            (4, "rename", "a", "c"), (5, "add", "a", 7),
        ])
        self.assertEqual([cells_at(past, 0, t) for t in (1, 2, 3, 4, 5)], [
            None, {1: 1}, {1: 1, 3: 6}, {1: 1, 3: 6}, {1: 1, 3: 6, 5: 7},
        ])

    def test_the_name_at_the_put_is_meant(self):
        past = Past([
            (1, "add", "a", 5), (2, "rename", "a", "b"), (3, "put", 0, (("a", 1), ("b", 2))), (4, "rename", "b", "c"),
            (5, "drop", "c"), (6, "add", "b", 6), (7, "put", 0, (("b", 3),)), (8, "strike", 0),
        ])
        self.assertEqual([cells_at(past, 0, t) for t in (3, 4, 5, 6, 7, 8)], [
            {1: 2}, {1: 2}, {}, {6: 6}, {6: 3}, None,
        ])

    def test_a_row_without_columns(self):
        past = Past([(1, "put", 0, (("a", 1),))])
        self.assertEqual((cells_at(past, 0, 1), cells_at(past, 0, 0)), ({}, None))

    def test_ascending(self):
        past = Past([(1, "add", "b", 1), (2, "add", "a", 2), (3, "put", 0, ())])
        self.assertEqual((list(cells_at(past, 0, 3)), list(map_at(past, 3))), ([1, 2], [1, 2]))
        self.assertEqual(cells_at(t=3, key=0, past=past), {1: 1, 2: 2})

    def test_beside_the_plain_reckoning_at_all_moments(self):
        for number, deeds in enumerate(some_pasts(6, 32)):
            past = Past(deeds)
            right = states(deeds)
            near = {0, END}.union(*[(deed[0] - 1, deed[0]) for deed in deeds])
            for t in range(END + 1) if number in (4, 13) else sorted(near):
                told = map_at(past, t)
                self.assertEqual(list(told.items()), sorted(right[t].map().items()))
                for key in (0, 1, 2, 9):
                    self.check_cells(past, right[t], told, key, t)

    def check_cells(self, past, state, told, key, t):
        cells = cells_at(past, key, t)
        self.assertEqual(cells, state.cells(key))
        if cells is None:
            self.assertIs(stored_at(past, key, t), None)
            self.assertIs(row_at(past, key, t), None)
        else:
            self.assertEqual(list(cells), list(told))
            self.assertEqual({told[own]: cells[own] for own in cells}, row_at(past, key, t))

    def test_told_may_be_changed(self):
        past = Past([(1, "add", "a", 1), (2, "put", 0, ()), (3, "add", "a", 1)])
        idle(past).clear()
        story(past).clear()
        map_at(past, 2).clear()
        cells_at(past, 0, 2).clear()
        self.assertEqual((idle(past), story(past)), ([3], [(1, 1, ((1, "a"),), None)]))
        self.assertEqual((map_at(past, 2), cells_at(past, 0, 2)), ({1: "a"}, {1: 1}))


class Refusals(unittest.TestCase):
    def test_no_past(self):
        for value in odd_values() + [[(1, "add", "a", 1)]]:
            raised(self, NoPast, value, idle, value)
            raised(self, NoPast, value, story, value)
            raised(self, NoPast, value, map_at, value, -1)
            raised(self, NoPast, value, stored_at, value, -1, -1)
            raised(self, NoPast, value, cells_at, t=-1, key=-1, past=value)

    def test_no_key_ahead_of_no_moment(self):
        for value in odd_values() + [-1, 10]:
            raised(self, NoKey, value, stored_at, Past(), value, -1)
            raised(self, NoKey, value, cells_at, t=-1, key=value, past=Past())

    def test_no_moment(self):
        for value in odd_values() + [-1, 1000]:
            raised(self, NoMoment, value, map_at, Past(), value)
            raised(self, NoMoment, value, stored_at, Past(), 0, value)
            raised(self, NoMoment, value, cells_at, t=value, key=0, past=Past())


if __name__ == "__main__":
    unittest.main()
