import random
import unittest
from itertools import combinations, product

from plainstore.errors import NoCount, NoLot
from plainstore.walked import are_safe, bars_by_count, is_safe, least_bars, lost_case, unruly_case
from tests.kinds import odd_values, raised
from tests.plainly import lots_of

COUNTS = [(n, r, w, m, p) for n in range(1, 6) for r in range(1, n + 1) for w in range(1, n + 1)
          for m in range(n + 1) for p in (1, 2, 6)]


def plainly_safe(writes, reads, unruly):
    return all(set(write) & set(read) - set(unruly) for write in writes for read in reads)


def plain_bars(writes, reads, unruly):
    right = [bars for bars in lots_of(5) if set(bars) <= set(unruly) and
             plainly_safe(writes, reads, set(unruly) - set(bars))]
    return [bars for bars in right if not any(set(other) < set(bars) for other in right)]


def some_told(rng):
    lots = lots_of(rng.choice((2, 3, 4, 5)))
    weights = [lot for lot in lots for _ in range(len(lot))]
    writes = rng.choices(weights, k=rng.randrange(4))
    reads = rng.choices(weights, k=rng.randrange(4))
    if rng.random() < 0.1:
        reads.append(())
    return writes, reads, rng.choice(lots)


class Counts(unittest.TestCase):
    def test_beside_going_through_all_lots(self):
        for n, r, w, m, p in COUNTS:
            ways = product(combinations(range(n), r), combinations(range(n), w))
            wild = m if p > 1 else 0
            safe = all(len(set(read) & set(write)) > wild for read, write in ways)
            self.assertIs(is_safe(n, r, w, m, p), safe)
            if safe:
                self.assertEqual((lost_case(n, r, w, m, p), unruly_case(n, r, w, m, p)), (None, None))
                continue
            read, write = lost_case(n, r, w, m, p)
            self.assertEqual((read, write), (tuple(range(r)), tuple(range(n - w, n))))
            shared = unruly_case(n, r, w, m, p)
            self.assertEqual(shared, tuple(sorted(set(read) & set(write))))
            self.assertLessEqual(len(shared), wild)

    def test_told(self):
        self.assertIs(is_safe(3, 2, 2, 0), True)
        self.assertIs(is_safe(3, 2, 2, 1), False)
        self.assertIs(is_safe(3, 2, 2, 1, 1), True)
        self.assertEqual(lost_case(3, 2, 2, 1), ((0, 1), (1, 2)))
        self.assertEqual(unruly_case(3, 2, 2, 1), (1,))
        self.assertEqual(lost_case(pages=1, unruly=2, writes=1, reads=1, count=2), ((0,), (1,)))
        self.assertEqual(unruly_case(pages=1, unruly=2, writes=1, reads=1, count=2), ())
        self.assertIs(is_safe(pages=6, unruly=1, writes=4, reads=3, count=5), True)


class ToldLots(unittest.TestCase):
    def test_beside_going_through_all_lots(self):
        rng = random.Random(100)
        sizes = set()
        for _ in range(1500):
            writes, reads, unruly = some_told(rng)
            self.assertIs(are_safe(writes, reads, unruly), plainly_safe(writes, reads, unruly))
            told = least_bars(tuple(writes), reads, unruly)
            self.assertEqual(told, plain_bars(writes, reads, unruly))
            sizes.add(len(told))
            shuffled = [rng.sample(lots, len(lots)) + lots[:1] for lots in (writes, reads)]
            self.assertEqual(least_bars(*shuffled, unruly), told)
            self.assertIs(are_safe(*shuffled, unruly), plainly_safe(writes, reads, unruly))
        self.assertTrue({0, 1, 2, 3} <= sizes)

    def test_told(self):
        self.assertIs(are_safe([(0, 1)], [(1, 2)], (0,)), True)
        self.assertIs(are_safe([(0, 1)], [(1, 2)], (1,)), False)
        self.assertEqual(least_bars([(0, 1)], [(1, 2)], (0,)), [()])
        self.assertEqual(least_bars([(0, 1)], [(1, 2)], (0, 1)), [(1,)])
        self.assertEqual(least_bars([(0,)], [(1,)], (0, 1)), [])
        self.assertEqual(least_bars([(0, 1, 2), (0, 3, 4)], [(0, 1, 2, 3, 4)], (0, 1, 2, 3, 4)),
                         [(0,), (1, 3), (1, 4), (2, 3), (2, 4)])
        self.assertEqual(least_bars(unruly=(0, 1), reads=((0, 1),), writes=[(0, 1)]), [(0,), (1,)])
        self.assertIs(are_safe(unruly=(0, 1, 2, 3, 4), reads=(), writes=[()]), True)
        self.assertEqual(least_bars([], [()], (4,)), [()])
        self.assertEqual(least_bars([()], [(0,)], ()), [])

    def test_by_count(self):
        for n, r, w, m, p in COUNTS:
            if p == 2:
                unruly = tuple(sorted(random.Random(n * r + w).sample(range(n), m)))
                writes, reads = list(combinations(range(n), w)), list(combinations(range(n), r))
                self.assertEqual(bars_by_count(n, r, w, unruly), plain_bars(writes, reads, unruly))
        self.assertEqual(bars_by_count(3, 2, 2, (0, 1)), [(0, 1)])
        self.assertEqual(bars_by_count(unruly=(1,), writes=3, reads=2, count=3), [()])
        self.assertEqual(bars_by_count(3, 1, 2, ()), [])

    def test_told_lists_may_be_changed(self):
        writes = [(0, 1)]
        least_bars(writes, [(0, 1)], (0,)).append(5)
        self.assertEqual((writes, least_bars(writes, [(0, 1)], (0,))), ([(0, 1)], [()]))


class Refusals(unittest.TestCase):
    def test_counts(self):
        for call in (is_safe, lost_case, unruly_case):
            for value in odd_values() + [0, 6]:
                raised(self, NoCount, value, call, value, None, None, None, None)
            for value in odd_values() + [0, 4]:
                raised(self, NoCount, value, call, 3, value, None, None, None)
                raised(self, NoCount, value, call, 3, 1, value, None, None)
            for value in odd_values() + [4]:
                raised(self, NoCount, value, call, 3, 1, 1, value, None)
            for value in odd_values() + [0, 7]:
                raised(self, NoCount, value, call, 3, 1, 1, 0, value)
                raised(self, NoCount, value, call, pages=value, unruly=3, writes=3, reads=3, count=3)
        for value in odd_values() + [0, 6]:
            raised(self, NoCount, value, bars_by_count, value, None, None, None)
        for value in odd_values() + [0, 4]:
            raised(self, NoCount, value, bars_by_count, 3, value, None, None)
            raised(self, NoCount, value, bars_by_count, 3, 1, value, None)
        for value in odd_values() + [(3,), [0], (1, 0), (0, 0), (True,)]:
            if repr(value) not in ("()", "(1,)"):
                raised(self, NoLot, value, bars_by_count, 3, 1, 1, value)
                raised(self, NoLot, value, bars_by_count, unruly=value, writes=3, reads=3, count=3)

    def test_lots(self):
        for call in (are_safe, least_bars):
            for value in odd_values() + [{(0,): 1}, {(0,)}, iter([(0,)]), "01"]:
                if value.__class__ not in (list, tuple):
                    raised(self, NoLot, None, call, value, None, None)
                    raised(self, NoLot, None, call, [(4,)], value, None)
            for value in odd_values() + [(5,), (0, 0), (1, 0), [0], (True,), (0, 1, 2, 3, 4, 5)]:
                if repr(value) not in ("()", "(1,)"):
                    raised(self, NoLot, 1, call, [(4,), value, None], [None], None)
                    raised(self, NoLot, 2, call, ((4,), (), (0, 4)), ((), (), value), None)
                    raised(self, NoLot, value, call, [(4,)], [(3,), ()], value)
                    raised(self, NoLot, value, call, unruly=value, reads=[], writes=())


if __name__ == "__main__":
    unittest.main()
