import random
import unittest

from plainstore.errors import NoDeed, NoMoment, NoPast, TooMany
from plainstore.pasts import Past
from tests.kinds import odd_values, raised
from tests.reckon import some_pasts

PUT = (5, "put", 1, (("b", 2), ("a", 1)))
PUT_IN_ORDER = (5, "put", 1, (("a", 1), ("b", 2)))
SIXTY = [(moment, "strike", 0) for moment in range(1, 61)]


class Makings(unittest.TestCase):
    def test_deeds_by_moments_pairs_by_names(self):
        deeds = [(9, "drop", "a"), PUT, (1, "add", "a", 3), (999, "strike", 9)]
        right = [(1, "add", "a", 3), PUT_IN_ORDER, (9, "drop", "a"), (999, "strike", 9)]
        self.assertEqual(Past(deeds).deeds(), right)
        self.assertEqual(Past(tuple(deeds)).deeds(), right)
        self.assertEqual(Past(deeds=deeds).deeds(), right)
        self.assertIs(Past(deeds).deeds().__class__, list)

    def test_in_whatever_order(self):
        rng = random.Random(1)
        for deeds in some_pasts(1, 24):
            shuffled = list(deeds)
            rng.shuffle(shuffled)
            shuffled = [
                deed[:3] + (tuple(rng.sample(deed[3], len(deed[3]))),) if deed[1] == "put" else deed
                for deed in shuffled
            ]
            past = Past(shuffled)
            self.assertEqual(past.deeds(), deeds)
            self.assertEqual(past.listed(), [deed[0] for deed in deeds])
            self.assertTrue(past == Past(deeds))

    def test_empty(self):
        for past in (Past(), Past([]), Past(())):
            self.assertEqual((past.deeds(), past.listed(), list(past), len(past)), ([], [], [], 0))
            self.assertTrue(past == Past())

    def test_no_list(self):
        for value in odd_values() + [Past(), Past([PUT])]:
            if value.__class__ not in (list, tuple):
                raised(self, NoPast, None, Past, value)
                raised(self, NoPast, None, Past, deeds=value)

    def test_no_deed(self):
        for value in odd_values():
            raised(self, NoPast, 0, Past, [value])
            raised(self, NoPast, 1, Past, ((1, "strike", 1), value))
            raised(self, NoPast, 2, Past, [(1, "strike", 1), (2, "strike", 1), value, value])

    def test_a_moment_twice(self):
        raised(self, NoPast, 1, Past, [PUT, PUT])
        raised(self, NoPast, 2, Past, [PUT, (6, "strike", 1), (5, "strike", 1), 7])
        raised(self, NoPast, 1, Past, [PUT, None, PUT])

    def test_sixty_and_one_more(self):
        self.assertEqual(len(Past(SIXTY)), 60)
        raised(self, TooMany, 60, Past, SIXTY + [(61, "strike", 0)])
        raised(self, TooMany, 60, Past, [(moment, "strike", 0) for moment in range(1, 1000)])
        raised(self, NoPast, 60, Past, SIXTY + [(60, "strike", 0)])
        raised(self, NoPast, 61, Past, SIXTY + [(61, "strike", 0), None])

    def test_what_is_handed_in_and_told_may_be_changed(self):
        deeds = [(1, "add", "a", 3), PUT]
        past = Past(deeds)
        deeds.append((7, "strike", 1))
        deeds[0] = (1, "add", "b", 4)
        past.deeds().clear()
        past.listed().append(8)
        self.assertEqual(past.deeds(), [(1, "add", "a", 3), PUT_IN_ORDER])
        self.assertEqual((past.listed(), len(past), 7 in past), ([1, 5], 2, False))


class Asking(unittest.TestCase):
    def setUp(self):
        self.past = Past([(9, "drop", "a"), PUT, (1, "add", "a", 3)])

    def test_items(self):
        self.assertEqual(self.past[5], PUT_IN_ORDER)
        self.assertEqual(self.past[1], (1, "add", "a", 3))
        for moment in [0, 2, 1000, -1, slice(0, 1)] + odd_values():
            raised(self, NoMoment, moment, self.past.__getitem__, moment)

    def test_in(self):
        self.assertEqual([moment for moment in range(0, 1001) if moment in self.past], [1, 5, 9])
        for value in odd_values() + [1.0, "1", PUT, (1, "add", "a", 3), (1,), [5]]:
            self.assertIs(value in self.past, False)
        self.assertIs(5 in self.past, True)

    def test_iteration(self):
        self.assertEqual(list(self.past), [1, 5, 9])
        self.assertEqual([moment for moment in self.past], [1, 5, 9])
        self.assertEqual(self.past.listed(), [1, 5, 9])
        self.assertEqual(len(self.past), 3)

    def test_equal(self):
        self.assertTrue(self.past == Past([PUT_IN_ORDER, (1, "add", "a", 3), (9, "drop", "a")]))
        self.assertFalse(self.past != Past(self.past.deeds()))
        for other in (
            Past(), Past(self.past.deeds()[1:]), Past(self.past.deeds() + [(2, "strike", 0)]),
            Past([(9, "drop", "a"), PUT, (1, "add", "a", 4)]), Past([(8, "drop", "a"), PUT, (1, "add", "a", 3)]),
        ):
            self.assertFalse(self.past == other)
            self.assertTrue(self.past != other)
        for other in (self.past.deeds(), self.past.listed(), tuple(self.past.deeds()), None, 3, True):
            self.assertFalse(self.past == other)
        self.assertFalse(Past() == [])


class Interface(unittest.TestCase):
    def test_methods_stand_in_the_class(self):
        for name in "__init__ deeds __getitem__ __contains__ __len__ __iter__ listed __eq__ with_deed without".split():
            self.assertIn(name, vars(Past))


class NewPasts(unittest.TestCase):
    def test_with_deed_leaves_the_old_past(self):
        past = Past([(9, "drop", "a")])
        other = past.with_deed(PUT)
        self.assertEqual(other.deeds(), [PUT_IN_ORDER, (9, "drop", "a")])
        self.assertEqual(past.deeds(), [(9, "drop", "a")])
        self.assertEqual((past.listed(), other.listed()), ([9], [5, 9]))
        self.assertEqual(past.with_deed(deed=(10, "drop", "a")).listed(), [9, 10])
        self.assertIs(other.__class__, Past)

    def test_without_leaves_the_old_past(self):
        past = Past([(9, "drop", "a"), PUT, (1, "add", "a", 3)])
        other = past.without(5)
        self.assertEqual(other.deeds(), [(1, "add", "a", 3), (9, "drop", "a")])
        self.assertEqual(past.listed(), [1, 5, 9])
        self.assertEqual(past.without(moment=1).listed(), [5, 9])
        self.assertTrue(other.with_deed(PUT) == past)
        self.assertIs(other.__class__, Past)

    def test_with_deed_refuses(self):
        past = Past([PUT])
        for value in odd_values():
            raised(self, NoDeed, value, past.with_deed, value)
        raised(self, NoMoment, 5, past.with_deed, PUT)
        raised(self, NoMoment, 5, past.with_deed, deed=(5, "strike", 1))
        raised(self, TooMany, 60, Past(SIXTY).with_deed, (61, "strike", 0))
        raised(self, NoMoment, 60, Past(SIXTY).with_deed, (60, "drop", "a"))
        raised(self, NoDeed, (0, "drop", "a"), Past(SIXTY).with_deed, (0, "drop", "a"))
        self.assertEqual(past.deeds(), [PUT_IN_ORDER])

    def test_the_sixtieth_deed(self):
        past = Past(SIXTY[:-1])
        self.assertEqual(len(past.with_deed(SIXTY[-1])), 60)
        self.assertEqual(len(Past(SIXTY).without(30).with_deed((999, "drop", "a"))), 60)

    def test_without_refuses(self):
        past = Past([PUT, (1, "strike", 0)])
        for value in [0, 4, 6, 999, 1000, PUT] + odd_values():
            raised(self, NoMoment, value, past.without, value)
        raised(self, NoMoment, True, past.without, moment=True)
        self.assertEqual(past.listed(), [1, 5])


if __name__ == "__main__":
    unittest.main()
