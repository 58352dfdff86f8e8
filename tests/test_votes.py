import random
import unittest
from fractions import Fraction
from itertools import combinations, product
from math import gcd

from plainstore.errors import NoChances, NoCount, NoLot, NoNeed, NoVotes
from plainstore.votes import (
    accepts_missed, best_counts, best_votes, chances, enough_lots, is_enough, is_votes, is_write_lot, missed_paper,
    write_lots,
)
from tests.kinds import odd_values, raised
from tests.plainly import lots_of, plainly_enough

SMALL = [(a, b) for b in range(1, 21) for a in range(b + 1) if gcd(a, b) == 1]
SOME_VOTES = [
    (1,), (9,), (0, 1), (1, 1), (2, 1, 1), (1, 1, 1), (0, 0, 4), (3, 3, 0), (5, 2, 2, 1), (1, 0, 1, 0), (9, 9, 9, 9),
    (1, 1, 1, 1, 1), (3, 1, 1, 1, 1), (9, 0, 0, 0, 1), (2, 3, 4, 5, 6),
]


def cases():
    """All needs and numbers of unruly copies of some votes."""
    for votes in SOME_VOTES:
        for need in {1, 2, sum(votes) // 2, sum(votes) // 2 + 1, sum(votes) - 1, sum(votes)}:
            if 1 <= need <= sum(votes):
                for unruly in range(len(votes) + 1):
                    yield votes, need, unruly


def plain_chances(votes, need, unruly, ups):
    writable = readable = Fraction(0)
    for lot in lots_of(len(votes)):
        chance = Fraction(1)
        for copy, (a, b) in enumerate(ups):
            chance *= Fraction(a, b) if copy in lot else 1 - Fraction(a, b)
        if sum(votes[copy] for copy in lot) >= need:
            writable += chance
        if plainly_enough(votes, need, unruly, lot):
            readable += chance
    return writable, readable


def told(fraction):
    return (fraction.numerator, fraction.denominator)


class Votes(unittest.TestCase):
    def test_votes(self):
        for value in SOME_VOTES + [(0, 0, 0, 0, 1)]:
            self.assertIs(is_votes(value), True)
        for value in [(), (0,), (0, 0, 0), (10,), (-1, 2), (1, 1, 1, 1, 1, 1), [1], [1, 1], (1, True), (True,), (1.0,)]:
            self.assertIs(is_votes(value), False)
        for value in odd_values():
            self.assertIs(is_votes(value), repr(value) == "(1,)")
            self.assertIs(is_votes((2, value)), False)
        self.assertIs(is_votes(value=(1,)), True)


class Lots(unittest.TestCase):
    def test_each_lot(self):
        for votes, need, unruly in cases():
            lots = lots_of(len(votes))
            for lot in lots:
                self.assertIs(is_write_lot(votes, need, lot), sum(votes[copy] for copy in lot) >= need)
                self.assertIs(is_enough(votes, need, unruly, lot), plainly_enough(votes, need, unruly, lot))
            self.assertEqual(enough_lots(votes, need, unruly),
                             [lot for lot in lots if plainly_enough(votes, need, unruly, lot)])
            self.assertEqual(write_lots(votes, need), [lot for lot in lots if sum(votes[c] for c in lot) >= need])

    def test_all_by_size_then_ascending(self):
        self.assertEqual(write_lots((1, 1, 1), 2), [(0, 1), (0, 2), (1, 2), (0, 1, 2)])
        self.assertEqual(write_lots((1, 1, 3), 3), [(2,), (0, 2), (1, 2), (0, 1, 2)])
        self.assertEqual(enough_lots((1, 1, 1, 1), 3, 1), [(0, 1, 2), (0, 1, 3), (0, 2, 3), (1, 2, 3), (0, 1, 2, 3)])
        self.assertEqual(enough_lots((1, 1), 1, 1), [])
        self.assertEqual(enough_lots((1, 1), 2, 2), [])

    def test_by_name(self):
        self.assertIs(is_write_lot(lot=(0,), need=1, votes=(1, 1)), True)
        self.assertIs(is_enough(lot=(0, 1), unruly=0, need=1, votes=(1, 1)), True)
        self.assertEqual(enough_lots(unruly=0, need=2, votes=(1, 1)), [(0,), (1,), (0, 1)])
        self.assertEqual(write_lots(need=2, votes=(1, 1)), [(0, 1)])

    def test_told_lists_may_be_changed(self):
        for tell in (lambda: write_lots((1, 1), 1), lambda: enough_lots((1, 1), 2, 0)):
            tell().clear()
            self.assertEqual(tell(), [(0,), (1,), (0, 1)])

    def test_a_lot_that_is_enough_meets_each_write_lot(self):
        for votes, need, unruly in cases():
            for lot in lots_of(len(votes)):
                ways = list(combinations(lot, min(unruly, len(lot))))
                meets = all(set(lot) & set(other) - set(w) for other in write_lots(votes, need) for w in ways)
                self.assertIs(is_enough(votes, need, unruly, lot), meets)


class Papers(unittest.TestCase):
    def judge(self, votes, need, unruly, lot, other):
        return sum(votes[copy] for copy in other) >= need and len(set(lot) & set(other)) <= unruly

    def test_told_papers(self):
        for votes, need, unruly in cases():
            for lot in lots_of(len(votes)):
                paper = missed_paper(votes, need, unruly, lot)
                if plainly_enough(votes, need, unruly, lot):
                    self.assertIsNone(paper)
                    continue
                left, most = list(lot), []
                while left and len(most) < unruly:
                    greatest = max(votes[copy] for copy in left)
                    most.append(next(copy for copy in left if votes[copy] == greatest))
                    left.remove(most[-1])
                self.assertEqual(paper, ("missed", lot, tuple(sorted(set(range(len(votes))) - set(left)))))
                self.assertTrue(self.judge(votes, need, unruly, *paper[1:]))
                self.assertIs(accepts_missed(votes, need, unruly, paper), True)

    def test_of_like_votes_the_lesser_numbers(self):
        self.assertEqual(missed_paper((1, 1, 1, 1), 2, 1, (1, 2, 3)), ("missed", (1, 2, 3), (0, 1)))
        self.assertEqual(missed_paper((1, 2, 2), 2, 1, (0, 1, 2)), ("missed", (0, 1, 2), (1,)))
        self.assertEqual(missed_paper((2, 1, 2), 2, 1, (0, 1, 2)), ("missed", (0, 1, 2), (0,)))
        self.assertEqual(missed_paper((2, 1, 1), 3, 1, (0, 1)), ("missed", (0, 1), (0, 2)))
        self.assertEqual(missed_paper((1, 1), 1, 0, ()), ("missed", (), (0, 1)))

    def test_each_pair_of_lots(self):
        for votes, need, unruly in cases():
            if len(votes) < 5 or need % 2:
                for lot in lots_of(len(votes)):
                    for other in lots_of(len(votes)):
                        self.assertIs(accepts_missed(votes, need, unruly, ("missed", lot, other)),
                                      self.judge(votes, need, unruly, lot, other))

    def test_any_value(self):
        right = ("missed", (0, 1), (0, 2))
        self.assertIs(accepts_missed(paper=right, unruly=1, need=3, votes=(2, 1, 1)), True)
        for value in odd_values() + [list(right), right[:2], right + ((),), ("miss",) + right[1:],
                                     ("missed", [0, 1], (0, 2)),
                                     ("missed", (1, 0), (0, 2)), ("missed", (0, 1), (2, 0)), ("missed", (0, 3), (0, 2)),
                                     ("missed", (False, 1), (0, 2)), ("missed", (0, 1), (0, 0, 2))]:
            self.assertIs(accepts_missed((2, 1, 1), 3, 1, value), False)
        for value in odd_values():
            for place in range(3):
                paper = right[:place] + (value,) + right[place + 1:]
                # Of these values () and (1,) are lots; the first of them has nothing in common with the other one.
                if not (place == 1 and repr(value) in ("()", "(1,)")):
                    self.assertIs(accepts_missed((2, 1, 1), 3, 1, paper), False)


class Chances(unittest.TestCase):
    def test_beside_adding_up_all_lots(self):
        rng = random.Random(70)
        for votes, need, unruly in cases():
            ups = [rng.choice(SMALL + [(0, 1), (1, 1)] * 20) for _ in votes]
            expected = tuple(told(chance) for chance in plain_chances(votes, need, unruly, ups))
            self.assertEqual(chances(votes, need, unruly, rng.choice((list, tuple))(ups)), expected)

    def test_surely_and_never(self):
        self.assertEqual(chances((1, 1), 1, 0, [(1, 1), (0, 1)]), ((1, 1), (0, 1)))
        self.assertEqual(chances((1, 1), 2, 0, [(1, 1), (1, 1)]), ((1, 1), (1, 1)))
        self.assertEqual(chances((2, 1, 1), 3, 0, [(3, 4)] * 3), ((45, 64), (57, 64)))
        self.assertEqual(chances(ups=((1, 2),), unruly=1, need=1, votes=(1,)), ((1, 2), (0, 1)))

    def test_best_counts(self):
        rng = random.Random(71)
        for count in range(1, 6):
            for unruly in range(count + 1):
                for up in [(0, 1), (1, 1), (1, 2)] + rng.sample(SMALL, 6):
                    for share in [(0, 1), (1, 1), (1, 2)] + rng.sample(SMALL, 3):
                        self.assertEqual(best_counts(count, unruly, up, share),
                                         self.plain_best(count, unruly, up, share))

    def plain_best(self, count, unruly, up, share):
        def up_at_least(many):
            one = Fraction(*up)
            told_chance = Fraction(0)
            for lot in lots_of(count):
                if len(lot) >= many:
                    told_chance += one ** len(lot) * (1 - one) ** (count - len(lot))
            return told_chance
        part = Fraction(*share)
        worths = {}
        for pair in product(range(1, count + 1), repeat=2):
            if sum(pair) == count + unruly + 1:
                worths[pair] = part * up_at_least(pair[0]) + (1 - part) * up_at_least(pair[1])
        return [pair for pair in sorted(worths) if worths[pair] == max(worths.values())]

    def test_best_counts_told(self):
        self.assertEqual(best_counts(3, 0, (1, 2), (1, 2)), [(1, 3), (2, 2), (3, 1)])
        self.assertEqual(best_counts(3, 0, (1, 1), (1, 2)), [(1, 3), (2, 2), (3, 1)])
        self.assertEqual(best_counts(share=(1, 1), up=(1, 2), unruly=1, count=3), [(2, 3)])
        self.assertEqual(best_counts(2, 2, (1, 2), (1, 2)), [])

    def test_best_votes(self):
        rng = random.Random(72)
        for count, tries in ((1, 8), (2, 12), (3, 4), (4, 1)):
            for _ in range(tries):
                ups = [rng.choice(SMALL + [(0, 1), (1, 1), (1, 2)] * 10) for _ in range(count)]
                share = rng.choice(SMALL + [(0, 1), (1, 1), (1, 2)] * 10)
                unruly = rng.randrange(count + 1)
                self.assertEqual(best_votes(ups, unruly, share), self.plain_best_votes(ups, unruly, share))
        for ups in ([(3, 4)] * 3, [(1, 2), (1, 3), (9, 10)], [(1, 1), (0, 1)]):
            self.assertEqual(best_votes(ups, 0, (1, 3)), self.plain_best_votes(ups, 0, (1, 3)))
            self.assertIsNone(best_votes(tuple(ups), len(ups), (1, 3)))

    def plain_best_votes(self, ups, unruly, share):
        part = Fraction(*share)
        best = None
        for votes in product(range(4), repeat=len(ups)):
            for need in range(1, sum(votes) + 1):
                if plainly_enough(votes, need, unruly, tuple(range(len(votes)))):
                    writable, readable = plain_chances(votes, need, unruly, ups)
                    worth = part * readable + (1 - part) * writable
                    if best is None or worth > best[0]:
                        best = (worth, votes, need)
        return None if best is None else (best[1], best[2], told(best[0]))

    def test_best_votes_of_four_copies(self):
        ups = [(9, 14), (5, 6), (17, 20), (13, 18)]
        self.assertEqual(best_votes(ups, 0, (3, 7)), ((1, 2, 3, 2), 4, (190843, 211680)))
        self.assertEqual(best_votes(ups, 0, (3, 7)), self.plain_best_votes(ups, 0, (3, 7)))
        for ups, share in (([(1, 2)] * 4, (1, 2)), ([(9, 10), (1, 2), (1, 3), (1, 5)], (2, 3))):
            self.assertEqual(best_votes(share=share, unruly=1, ups=ups), self.plain_best_votes(ups, 1, share))


class Refusals(unittest.TestCase):
    def test_votes_needs_unruly_and_lots(self):
        calls = (is_write_lot, is_enough, enough_lots, write_lots, missed_paper, accepts_missed, chances)
        more = {is_write_lot: 1, is_enough: 2, enough_lots: 1, write_lots: 0, missed_paper: 2, accepts_missed: 2,
                chances: 2}
        for call in calls:
            for value in odd_values() + [(0,), (1,) * 6]:
                if not is_votes(value):
                    raised(self, NoVotes, value, call, value, 0, *[None] * more[call])
            for value in odd_values() + [0, 3]:
                raised(self, NoNeed, value, call, (1, 1), value, *[None] * more[call])
        for call in (is_enough, enough_lots, missed_paper, accepts_missed, chances):
            for value in odd_values() + [3]:
                raised(self, NoCount, value, call, (1, 1), 2, value, *[None] * (more[call] - 1))
        for value in odd_values() + [[0], (2,), (1, 0), (0, 0), (False,)]:
            if repr(value) in ("()", "(1,)"):
                continue
            raised(self, NoLot, value, is_write_lot, (1, 1), 2, value)
            raised(self, NoLot, value, is_enough, (1, 1), 2, 1, value)
            raised(self, NoLot, value, missed_paper, lot=value, unruly=0, need=1, votes=(1, 1))

    def test_chances(self):
        wrong = odd_values() + [
            [], [(1, 2)], [(1, 2)] * 3, [(1, 2), (2, 4)], [(1, 2), (1, 21)], [(1, 2), (3, 2)], [(1, 2), (-1, 2)],
            [(1, 2), (0, 2)], [(1, 2), [1, 2]], [(1, 2), (1, 0)], [(1, 2), (True, 1)], [(1, 2), (1, 2, 3)], [(1, 2), 1],
            {(1, 2): 1, (1, 3): 1}, [(1, 2), (1, -2)], [(1, 2), None], "ab", [(1, 2), (-1, -2)], [(0, 1), (False, 1)],
        ]
        for value in wrong:
            raised(self, NoChances, value, chances, (1, 1), 1, 0, value)
            if repr(value) not in ("[(1, 2)]", "[(1, 2), (1, 2), (1, 2)]"):
                raised(self, NoChances, value, best_votes, value, -1, None)
        raised(self, NoChances, [(1, 2)] * 5, best_votes, [(1, 2)] * 5, -1, None)
        for value in odd_values() + [3]:
            raised(self, NoCount, value, best_votes, [(1, 2)] * 2, value, None)
        for value in odd_values() + [(2, 1), (-1, 2), (2, 4), (1, 21), (0, 2), [1, 2], (1, 0), (True, 1)]:
            raised(self, NoChances, value, best_votes, ((1, 2),), 0, value)
            raised(self, NoChances, value, best_counts, 1, 0, (1, 1), value)
            raised(self, NoChances, value, best_counts, share=None, up=value, unruly=0, count=1)
        for value in odd_values() + [0, 6]:
            raised(self, NoCount, value, best_counts, value, -1, None, None)
        for value in odd_values() + [4]:
            raised(self, NoCount, value, best_counts, 3, value, None, None)


if __name__ == "__main__":
    unittest.main()
