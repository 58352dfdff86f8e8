import random
import unittest
from itertools import product

from plainstore.conditions import run
from plainstore.errors import NoCondition, NoKey, NoMoment, NoName, NoPast, NoPicture, TooMany
from plainstore.pasts import Past
from plainstore.pictures import (
    cuts_of, first_with, outcome, past_of, picture_of, pictures, region, unlike, unlike_past, witness,
)
from tests.kinds import Yes, odd_values, raised
from tests.plainly import state_at
from tests.reckon import some_deeds
from tests.somes import some_condition

ROW = ("row",)
HAS = ("has", "a")
EQ = ("eq", "a", 5)
WHOLE = ("any", (
    ("any", (("eq", "a", 1), ("less", "a", 3), ("eq", "a", 5))), ("less", "b", 1), ("eq", "b", 3), ("less", "b", 5),
    ("less", "c", 1), ("eq", "c", 3),
))


def tests_in(condition):
    if condition[0] == "not":
        return tests_in(condition[1])
    if condition[0] in ("all", "any"):
        return [test for part in condition[1] for test in tests_in(part)]
    return [condition]


def plain_cuts(*conditions):
    cuts = {}
    for test in [test for condition in conditions for test in tests_in(condition)]:
        if len(test) > 1:
            cuts.setdefault(test[1], set()).update(test[2:])
    return {name: tuple(sorted(values)) for name, values in cuts.items()}


def plain_region(cuts, value):
    told = 0
    for cut in cuts:
        told += (value >= cut) + (value > cut)
    return told


def plain_pictures(cuts):
    told = [(False, truths) for truths in product((False, True), repeat=len(cuts))]
    cells = [[None] + sorted({plain_region(own, value) for value in range(100)}) for own in cuts.values()]
    return told + [(True, ways) for ways in product(*cells)]


def plain_past(cuts, picture):
    deeds = []
    for (_, own), name, cell in zip(cuts.items(), cuts, picture[1]):
        if picture[0] and cell is not None:
            fill = min(value for value in range(100) if plain_region(own, value) == cell)
            deeds.append((len(deeds) + 1, "add", name, fill))
        if not picture[0] and cell:
            deeds.append((len(deeds) + 1, "add", name, 0))
    return deeds + ([(len(deeds) + 1, "put", 0, ())] if picture[0] else [])


def some_cuts(rng):
    return tuple(sorted(rng.sample([0, 1, 2, 3, 50, 51, 97, 98, 99] + list(range(100)), 4)[:rng.randrange(4)]))


class Regions(unittest.TestCase):
    def test_cuts(self):
        self.assertEqual(cuts_of(("any", (("less", "b", 7), HAS, ("eq", "b", 2), ROW, ("eq", "b", 7)))),
                         {"b": (2, 7), "a": ()})
        self.assertEqual(list(cuts_of(condition=("any", (("less", "b", 7), HAS)))), ["b", "a"])
        self.assertEqual(cuts_of(ROW), {})
        rng = random.Random(120)
        for _ in range(200):
            condition = some_condition(rng)
            self.assertEqual(list(cuts_of(condition).items()), list(plain_cuts(condition).items()))
        cuts_of(EQ)["b"] = ()
        self.assertEqual(cuts_of(EQ), {"a": (5,)})

    def test_region_and_witness(self):
        rng = random.Random(121)
        for _ in range(150):
            cuts = tuple(sorted(set(some_cuts(rng))))
            regions = [region(cuts, value) for value in range(100)]
            self.assertEqual(regions, [plain_region(cuts, value) for value in range(100)])
            for place in range(2 * len(cuts) + 4):
                self.assertEqual(witness(cuts, place), regions.index(place) if place in regions else None)

    def test_told(self):
        self.assertEqual([region((3, 7), value) for value in (0, 2, 3, 4, 6, 7, 8, 99)], [0, 0, 1, 2, 2, 3, 4, 4])
        self.assertEqual([witness((3, 7), place) for place in range(6)], [0, 3, 4, 7, 8, None])
        self.assertEqual([witness((0, 1, 99), place) for place in range(7)], [None, 0, None, 1, 2, 99, None])
        self.assertEqual((region(value=9, cuts=()), witness(region=0, cuts=()), witness((), 1)), (0, 0, None))


class Pictures(unittest.TestCase):
    def test_all_in_order(self):
        rng = random.Random(122)
        for condition in [WHOLE, ROW, HAS, EQ] + [some_condition(rng) for _ in range(150)]:
            self.assertEqual(pictures(condition), plain_pictures(plain_cuts(condition)))
        self.assertEqual(pictures(condition=("any", (EQ, ("has", "b")))), [
            (False, (False, False)), (False, (False, True)), (False, (True, False)), (False, (True, True)),
            (True, (None, None)), (True, (None, 0)), (True, (0, None)), (True, (0, 0)), (True, (1, None)),
            (True, (1, 0)),
            (True, (2, None)), (True, (2, 0)),
        ])
        self.assertEqual(pictures(ROW), [(False, ()), (True, ())])
        self.assertEqual(len(pictures(("any", tuple((word, name, cut) for word, name, cut in (
            ("eq", "a", 1), ("eq", "b", 1), ("eq", "c", 1)))))), 8 + 64)

    def test_the_most(self):
        names = (("a", 3), ("b", 3), ("c", 2))
        cuts = [("any", tuple(("less", name, cut) for cut in (1, 3, 5)[:most])) for name, most in names]
        self.assertEqual(len(pictures(("any", tuple(cuts)))), 8 + 8 * 8 * 6)
        pictures(ROW).clear()
        self.assertEqual(len(pictures(ROW)), 2)

    def test_picture_of(self):
        rng = random.Random(123)
        for _ in range(600):
            condition, deeds = some_condition(rng), some_deeds(rng, rng.choice((0, 4, 9)), 9, 2)
            key, t = rng.randrange(3), rng.choice((0, 3, 6, 9, 999))
            state, cuts = state_at(deeds, t), plain_cuts(condition)
            row = state.row(key)
            if row is None:
                expected = (False, tuple(name in state.names() for name in cuts))
            else:
                expected = (True, tuple(plain_region(cuts[name], row[name]) if name in row else None for name in cuts))
            self.assertEqual(picture_of(condition, Past(deeds), key, t), expected)
            self.assertIn(expected, pictures(condition))
            self.assertEqual(outcome(condition, expected), run(condition, Past(deeds), key, t))
        self.assertEqual(picture_of(t=0, key=0, past=Past(), condition=EQ), (False, (False,)))

    def test_past_of(self):
        rng = random.Random(124)
        for condition in [WHOLE, ROW, HAS, EQ] + [some_condition(rng) for _ in range(60)]:
            some = pictures(condition)
            for picture in rng.sample(some, min(12, len(some))):
                past = past_of(condition, picture)
                self.assertEqual(past.deeds(), plain_past(plain_cuts(condition), picture))
                self.assertEqual(picture_of(condition, past, 0, 999), picture)
                self.assertEqual(outcome(condition, picture), run(condition, past, 0, 999))
        self.assertEqual(past_of(picture=(False, (True,)), condition=EQ).deeds(), [(1, "add", "a", 0)])
        self.assertEqual(past_of(EQ, (True, (2,))).deeds(), [(1, "add", "a", 6), (2, "put", 0, ())])
        self.assertEqual(past_of(EQ, (True, (0,))).deeds(), [(1, "add", "a", 0), (2, "put", 0, ())])
        self.assertEqual(past_of(EQ, (True, (None,))).deeds(), [(1, "put", 0, ())])

    def test_first_with(self):
        rng = random.Random(125)
        for condition in [WHOLE, ROW, HAS, EQ] + [some_condition(rng) for _ in range(80)]:
            outcomes = [outcome(condition, picture) for picture in pictures(condition)]
            for word in ("fault", "no", "yes"):
                first = pictures(condition)[outcomes.index(word)] if word in outcomes else None
                self.assertEqual(first_with(condition, word), first)
        self.assertEqual(first_with(word="yes", condition=EQ), (True, (1,)))
        self.assertIsNone(first_with(("any", (ROW, ("not", ROW))), "no"))


class Unlike(unittest.TestCase):
    def check(self, one, other):
        expected = None
        for picture in plain_pictures(plain_cuts(one, other)):
            past = Past(plain_past(plain_cuts(one, other), picture))
            if run(one, past, 0, 999) != run(other, past, 0, 999):
                expected = picture
                break
        self.assertEqual(unlike(one, other), expected)
        if expected is None:
            self.assertIsNone(unlike_past(one, other))
        else:
            self.assertTrue(unlike_past(one, other) == past)
        return expected

    def test_beside_going_through_all_pictures_of_both(self):
        rng = random.Random(126)
        found = 0
        for _ in range(150):
            one, other = some_condition(rng, 4), some_condition(rng, 4)
            cuts = plain_cuts(one, other)
            if len(plain_pictures(cuts)) <= 520:
                found += self.check(one, other) is not None
                self.check(one, one)
        self.assertGreater(found, 40)

    def test_told(self):
        self.assertEqual(unlike(EQ, ("not", ("less", "a", 6))), (True, (1,)))
        self.assertEqual(unlike(("less", "a", 6), ("any", (("less", "a", 5), EQ))), None)
        self.assertEqual(unlike(("less", "a", 6), ("any", (EQ, ("less", "a", 5)))), None)
        self.assertEqual(unlike(other=("has", "b"), one=HAS), (False, (False, True)))
        self.assertEqual(unlike_past(other=("has", "b"), one=HAS).deeds(), [(1, "add", "b", 0)])
        self.assertEqual(unlike(("has", "b"), HAS), (False, (False, True)))
        self.assertEqual(unlike_past(("has", "b"), HAS).deeds(), [(1, "add", "a", 0)])
        self.assertEqual(unlike(("any", (("has", "b"), HAS)), HAS), (False, (True, False)))

    def test_too_many(self):
        full = ("any", tuple(("any", tuple(("eq", name, cut) for cut in cuts)) for name, cuts in (
            ("a", (10, 20, 30)), ("b", (10, 20, 30)), ("c", (10, 20)))))
        third = ("any", (("eq", "c", 30), ROW))
        self.assertEqual(len(plain_pictures(plain_cuts(full, third))), 520)
        self.assertEqual(self.check(full, third), (True, (None, None, 0)))
        for call in (unlike, unlike_past):
            for more in (("has", "d"), ("any", (("eq", "c", 30), ("eq", "c", 40))), ("less", "d", 1)):
                raised(self, TooMany, 520, call, full, more)
                raised(self, TooMany, 520, call, more, full)
        # By values there are 504 pictures with a row; the 32 without one count, too.
        wide = ("any", (("eq", "a", 0), ("eq", "a", 10), ("eq", "a", 20), ("eq", "b", 10), ("eq", "b", 20),
                        ("eq", "c", 0)))
        self.assertEqual(len(plain_pictures(plain_cuts(wide))), 8 + 126)
        raised(self, TooMany, 520, unlike, wide, ("any", (("has", "d"), ("has", "e"))))
        self.assertEqual(len(plain_pictures(plain_cuts(wide, ("has", "d")))), 16 + 252)
        self.assertEqual(unlike(wide, ("has", "d")), self.check(wide, ("has", "d")))
        six = [("any", tuple(("has", name) for name in names)) for names in (("a", "b", "c"), ("d", "e", "f"))]
        self.assertEqual(unlike(*six), (False, (False, False, False, False, False, True)))
        self.assertEqual(len(plain_pictures(plain_cuts(*six))), 128)
        near = [("any", tuple(("eq", name, 5) for name in names)) for names in (("a", "b", "c"), ("c", "d"))]
        self.assertEqual(len(plain_pictures(plain_cuts(*near))), 16 + 256)
        self.assertEqual(unlike(*near), self.check(*near))
        # A cut at 0 leaves no region below it, so that what is told of a name are three ways, not four.
        edge = [("any", tuple(("eq", name, 0) for name in names)) for names in (("a", "b", "c"), ("d", "e"))]
        self.assertEqual(len(plain_pictures(plain_cuts(*edge))), 32 + 243)
        self.assertEqual(unlike(*edge), self.check(*edge))


class Refusals(unittest.TestCase):
    def test_no_condition(self):
        for value in odd_values() + [("all", (ROW, ROW)), ["row"]]:
            for call in (cuts_of, pictures):
                raised(self, NoCondition, value, call, value)
            for call in (past_of, outcome, first_with):
                raised(self, NoCondition, value, call, value, None)
            raised(self, NoCondition, value, picture_of, value, Past(), None, None)
            raised(self, NoPast, 5, picture_of, value, 5, None, None)
            for call in (unlike, unlike_past):
                raised(self, NoCondition, value, call, value, None)
                raised(self, NoCondition, value, call, ROW, value)

    def test_picture_of(self):
        for value in odd_values():
            raised(self, NoPast, value, picture_of, None, value, None, None)
        for value in odd_values() + [10]:
            raised(self, NoKey, value, picture_of, ROW, Past(), value, None)
        for value in odd_values() + [1000]:
            raised(self, NoMoment, value, picture_of, ROW, Past(), 0, value)

    def test_no_picture(self):
        condition = ("any", (("eq", "a", 0), ("has", "b")))
        wrong = odd_values() + [
            (False, (True,)), (False, (True, True, True)), (False, (None, True)), (False, (0, 1)),
            (False, [True, True]),
            (True, (0, None)), (True, (3, None)), (True, (1, 1)), (True, (-1, None)), (True, (False, None)),
            (1, (1, None)),
            (True, (True, None)), (0, (True, True)), (True, (1.0, None)), (True, [1, None]), (True, (1, None), 1),
            (True,),
            (None, (1, None)), [True, (1, None)], (True, (1, Yes())), (False, (Yes(), True)), (Yes(), (True, True)),
            (True, (10 ** 40, None)), (True, (1, "")), (False, (True, None)),
        ]
        for value in wrong:
            for call in (past_of, outcome):
                raised(self, NoPicture, value, call, condition, value)
        self.assertEqual(outcome(picture=(True, (1, None)), condition=condition), "yes")

    def test_no_name(self):
        for value in odd_values() + ["YES", "faults", ("yes",), ["no"], "none"]:
            raised(self, NoName, value, first_with, ROW, value)


if __name__ == "__main__":
    unittest.main()
