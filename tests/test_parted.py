import random
import unittest
from itertools import product

from plainstore.errors import NoCondition, NoCount, NoPicture
from plainstore.parted import accepts_parted, mixed_outcome, parted, parted_over, parted_paper
from plainstore.pasts import Past
from plainstore.pictures import past_of, pictures
from tests.kinds import odd_values, raised
from tests.plainly import state_at
from tests.reckon import some_deeds
from tests.somes import some_condition

BOTH = ("all", (("has", "a"), ("row",), ("eq", "a", 1)))
EITHER = ("any", (("row",), ("not", ("row",))))


def said(test, deeds):
    """The answer to a test of key 0 behind these deeds."""
    state = state_at(deeds, 999)
    row = state.row(0)
    if test == ("row",):
        return "no" if row is None else "yes"
    if test[0] == "has":
        return "yes" if test[1] in state.names() else "no"
    if row is None or test[1] not in row:
        return "fault"
    own = row[test[1]]
    return "yes" if (own == test[2] if test[0] == "eq" else own < test[2]) else "no"


class Asking:
    """A run that asks one past first, and then another one."""

    def __init__(self, one, other, count):
        self.pasts = (one, other)
        self.count = count
        self.asked = 0

    def run(self, condition):
        if condition[0] == "not":
            return {"yes": "no", "no": "yes", "fault": "fault"}[self.run(condition[1])]
        if condition[0] in ("all", "any"):
            last = "no" if condition[0] == "all" else "yes"
            for part in condition[1]:
                told = self.run(part)
                if told in ("fault", last):
                    return told
            return "yes" if last == "no" else "no"
        self.asked += 1
        return said(condition, self.pasts[0 if self.asked <= self.count else 1])


def mixed(condition, one, other, count):
    return Asking(one, other, count).run(condition)


def is_parted(condition, one, other, count):
    sides = (mixed(condition, one, one, 0), mixed(condition, other, other, 0))
    return mixed(condition, one, other, count) not in sides


def some_small(seed, tries, most_pictures):
    """Conditions with few pictures, and the deeds of the pasts of these."""
    rng = random.Random(seed)
    while tries:
        condition = some_condition(rng)
        shown = pictures(condition)
        if len(shown) <= most_pictures:
            tries -= 1
            yield condition, shown, [past_of(condition, picture).deeds() for picture in shown]


class Mixed(unittest.TestCase):
    def test_all_pairs_and_counts(self):
        told = set()
        for condition, shown, pasts in some_small(160, 25, 10):
            for (one, first), (other, second) in product(list(zip(shown, pasts)), repeat=2):
                for count in range(10):
                    outcome = mixed_outcome(condition, one, other, count)
                    self.assertEqual(outcome, mixed(condition, first, second, count))
                    told.add(outcome)
        self.assertEqual(told, {"yes", "no", "fault"})

    def test_large_ones_by_chance(self):
        rng = random.Random(161)
        for _ in range(150):
            condition = some_condition(rng)
            shown = pictures(condition)
            for _ in range(8):
                one, other, count = rng.choice(shown), rng.choice(shown), rng.randrange(9)
                sides = [past_of(condition, picture).deeds() for picture in (one, other)]
                self.assertEqual(mixed_outcome(condition, one, other, count), mixed(condition, *sides, count))

    def test_counts(self):
        yes, no = (True, (1,)), (False, (False,))
        self.assertEqual([mixed_outcome(BOTH, no, yes, count) for count in range(4)], ["yes", "no", "no", "no"])
        self.assertEqual([mixed_outcome(BOTH, yes, no, count) for count in range(5)],
                         ["no", "no", "fault", "yes", "yes"])
        self.assertEqual(mixed_outcome(BOTH, yes, no, 10 ** 30), "yes")
        self.assertEqual(mixed_outcome(count=2, other=no, one=yes, condition=BOTH), "fault")

    def test_refusals(self):
        yes = (True, (1,))
        wrong = odd_values() + [(True, (True,)), (False, (1,)), (True, ()), [True, (1,)], (True, (7,)), (1, (1,))]
        for value in odd_values() + [("has",), ("all", ())]:
            for call in (parted, parted_paper, parted_over):
                raised(self, NoCondition, value, call, value)
                raised(self, NoCondition, value, call, condition=value)
            raised(self, NoCondition, value, mixed_outcome, value, None, None, None)
            raised(self, NoCondition, value, accepts_parted, value, None)
        for value in wrong:
            raised(self, NoPicture, value, mixed_outcome, BOTH, value, None, None)
            raised(self, NoPicture, value, mixed_outcome, BOTH, yes, value, None)
        for value in odd_values():
            if repr(value) != repr(10 ** 30):
                raised(self, NoCount, value, mixed_outcome, BOTH, yes, yes, value)
                raised(self, NoCount, value, mixed_outcome, count=value, other=yes, one=yes, condition=BOTH)


class Parted(unittest.TestCase):
    def test_beside_going_through_all(self):
        seen = set()
        for condition, shown, pasts in some_small(162, 60, 18):
            cases = list(zip(shown, pasts))
            plain = None
            for count in range(1, 9):
                found = [(one, other, count) for one, first in cases for other, second in cases
                         if is_parted(condition, first, second, count)]
                if found:
                    plain = found[0]
                    break
            self.assertEqual(parted(condition), plain)
            seen.add(plain and plain[2])
            if plain is None:
                self.assertIs(parted_paper(condition), None)
                continue
            deeds = dict(cases)
            self.assertEqual(parted_paper(condition), ("parted", deeds[plain[0]], deeds[plain[1]], plain[2]))
            self.assertIs(accepts_parted(condition, parted_paper(condition)), True)
        self.assertLessEqual({None, 1, 2}, seen)

    def test_large_ones_by_chance(self):
        rng = random.Random(165)
        tests = [("eq", name, value) for name in ("a", "b", "c") for value in (1, 3, 5)][:7]
        conditions = [
            ("all", (("any", (("has", "a"), *tests[:3])), *tests[3:])), ("any", (tests[0], ("all", tuple(tests[1:])))),
        ]
        for condition in conditions:
            shown = pictures(condition)
            self.assertGreater(len(shown), 150)
            one, other, count = parted(condition)
            self.assertTrue(is_parted(condition, *[past_of(condition, side).deeds() for side in (one, other)], count))
            ahead = [(first, second, less) for less in range(1, count) for first in shown for second in shown]
            ahead += [(first, second, count) for first in shown[:shown.index(one)] for second in shown]
            ahead += [(one, second, count) for second in shown[:shown.index(other)]]
            for first, second, times in rng.sample(ahead, min(300, len(ahead))):
                sides = [past_of(condition, side).deeds() for side in (first, second)]
                self.assertFalse(is_parted(condition, *sides, times))
        self.assertIs(parted(("all", (tests[0],) * 5 + (("all", (tests[0],) * 3),))), None)

    def test_told(self):
        self.assertEqual(parted(BOTH), ((False, (True,)), (True, (None,)), 1))
        self.assertEqual(parted(EITHER), ((False, ()), (True, ()), 1))
        self.assertEqual(parted_paper(EITHER), ("parted", [], [(1, "put", 0, ())], 1))
        self.assertEqual([parted(test) for test in (("row",), ("eq", "a", 1), ("not", ("has", "b")))], [None] * 3)

    def test_over_two_keys(self):
        rng = random.Random(163)
        seen = set()
        for _ in range(200):
            condition = some_condition(rng, 4)
            outcomes = {mixed(condition, past_of(condition, picture).deeds(), [], 9) for picture in pictures(condition)}
            self.assertIs(parted_over(condition), len(outcomes) > 1)
            seen.add(len(outcomes))
        self.assertLessEqual({2, 3}, seen)
        self.assertIs(parted_over(("any", (("row",), ("not", ("row",))))), False)
        self.assertIs(parted_over(condition=("row",)), True)


class Papers(unittest.TestCase):
    def test_anybodys_pasts_and_counts(self):
        rng = random.Random(164)
        seen = set()
        for _ in range(400):
            condition = some_condition(rng, 5)
            one, other = some_deeds(rng, rng.randrange(5), 20, 2), some_deeds(rng, rng.randrange(5), 20, 2)
            rng.shuffle(one)
            for count in range(6):
                right = count > 0 and is_parted(condition, one, other, count)
                paper = ("parted", rng.choice((list, tuple))(one), other, count)
                self.assertIs(accepts_parted(condition, paper), right)
                seen.add(right)
        self.assertEqual(seen, {False, True})

    def test_bent_ones(self):
        one, other = [], [(2, "put", 0, (("b", 1), ("a", 2)))]
        right = ("parted", one, other, 1)
        self.assertIs(accepts_parted(EITHER, right), True)
        self.assertIs(accepts_parted(paper=("parted", (), tuple(other), 1), condition=EITHER), True)
        sixty = [(moment, "strike", 1) for moment in range(3, 62)]
        self.assertIs(accepts_parted(EITHER, ("parted", one, other + sixty, 1)), True)
        bent = [
            list(right), right[:3], right + (1,), ("Parted",) + right[1:], ("parted", other, one, 1),
            ("parted", one, other, 0), ("parted", one, other, 2), ("parted", one, other, -1),
            ("parted", one, other, True), ("parted", one, other, 1.0), ("parted", one, other * 2, 1),
            ("parted", one, Past(other), 1), ("parted", one, [(0, "put", 0, ())], 1),
            ("parted", one, [list(other[0])], 1), ("parted", None, other, 1),
            ("parted", one, other + sixty + [(62, "strike", 1)], 1), ("parted", one, [(2, "put", 1, ())], 1),
        ]
        for paper in bent + odd_values():
            self.assertIs(accepts_parted(EITHER, paper), False)
        for value in odd_values():
            for place in range(4):
                if not (place == 1 and repr(value) in ("[]", "()")):
                    paper = right[:place] + (value,) + right[place + 1:]
                    self.assertIs(accepts_parted(EITHER, paper), False)

    def test_told_lists_may_be_changed(self):
        told = parted_paper(BOTH)
        told[1].clear()
        told[2].append(5)
        self.assertEqual(parted_paper(BOTH), ("parted", [(1, "add", "a", 0)], [(1, "put", 0, ())], 1))


if __name__ == "__main__":
    unittest.main()
