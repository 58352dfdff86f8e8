import random
import unittest

from plainstore.errors import NoChange, NoPast, NoWish, TooMany
from plainstore.pasts import Past
from plainstore.wishes import does, is_so, least_changes
from tests.kinds import odd_values, raised
from tests.plainly import answer_at, state_at
from tests.reckon import NAMES, behind, some_deed, some_deeds, some_pairs

PAST = Past([(2, "add", "a", 5)])
LONG = Past([(moment, "strike", 1) for moment in range(1, 61)])


def is_it(deeds, wish):
    key, name, t, value = wish
    told = answer_at(deeds, key, name, t)
    return isinstance(told, int) and told == value


def least_free(deeds, t):
    """The least free moment up to t of each stretch that has one."""
    taken = {deed[0] for deed in deeds}
    return [moment for moment in range(1, t + 1) if moment not in taken and (moment == 1 or moment - 1 in taken)]


def names_in(deeds, wish):
    told = {wish[1]}
    for deed in deeds:
        if deed[1] == "put":
            told |= {name for name, _ in deed[3]}
        else:
            told |= {part for part in deed[2:] if isinstance(part, str)}
    return sorted(told)


def put_at(deeds, moment, wish):
    """The put of the key, with the value under the name that the asked column has at the moment."""
    key, name, t, value = wish
    asked = [own for own, called in state_at(deeds, t).map().items() if called == name]
    there = state_at(deeds, moment).map()
    return (moment, "put", key, tuple((there[own], value) for own in asked if own in there))


def singles(deeds, wish):
    """All single changes in the document's order."""
    told = [("out", deed[0]) for deed in sorted(deeds)]
    names = names_in(deeds, wish)
    for moment in least_free(deeds, wish[2]):
        told.append(("in", put_at(deeds, moment, wish)))
        told += [("in", (moment, "add", name, wish[3])) for name in names]
        told += [("in", (moment, "drop", name)) for name in names]
        told += [("in", (moment, "rename", one, other)) for one in names for other in names if one != other]
    return told


def the_two(deeds, wish):
    """The add and the put, or None."""
    key, name, t, value = wish
    state = state_at(deeds, t)
    if name in state.names() or state.row(key) is not None:
        return None
    taken = {deed[0] for deed in deeds}
    alters = [deed[0] for deed in deeds if deed[0] <= t and deed[1] not in ("put", "strike")]
    own = [deed[0] for deed in deeds if deed[0] <= t and deed[1] in ("put", "strike") and deed[2] == key]
    adds = [moment for moment in range(max([0] + alters) + 1, t + 1) if moment not in taken]
    puts = [moment for moment in range(max([0] + own) + 1, t + 1) if moment not in taken and moment not in adds[:1]]
    if not adds or not puts:
        return None
    return [("in", (adds[0], "add", name, value)), ("in", (puts[0], "put", key, ()))]


def plainly_least(deeds, wish):
    if is_it(deeds, wish):
        return []
    for change in singles(deeds, wish):
        if is_it(behind(deeds, change), wish):
            return [change]
    return the_two(deeds, wish)


def with_few_values(rng, deed):
    """A deed over two keys, three names and two values."""
    moment, word = deed[:2]
    if word == "put":
        names = rng.sample(NAMES[:3], rng.randrange(3))
        return (moment, word, deed[2], tuple(sorted((name, rng.choice((1, 7))) for name in names)))
    if word == "add":
        return (moment, word, rng.choice(NAMES[:3]), rng.choice((1, 7)))
    if word == "drop":
        return (moment, word, rng.choice(NAMES[:3]))
    return deed if word == "strike" else (moment, word, *rng.sample(NAMES[:3], 2))


def some_cases(seed, tries):
    rng = random.Random(seed)
    for _ in range(tries):
        many = rng.choice((0, 1, 2, 3, 5, 8, 11))
        last = max(many, rng.choice((many, many, many + 1, many + 4, 30)), 1)
        deeds = [with_few_values(rng, deed) for deed in some_deeds(rng, many, last, 2)]
        t = rng.choice((0, 1, last, last, rng.randrange(last + 1), 999))
        yield rng, deeds, (rng.randrange(2), rng.choice(NAMES[:3] + ("q",)), t, rng.choice((1, 7, 7, 50)))


# A past of which only a drop, and one of which only a rename, has the wished value.
BY_DROP = [(1, "drop", "a"), (2, "put", 0, ()), (3, "add", "b", 7), (4, "add", "b", 1), (5, "strike", 1),
           (7, "strike", 1), (10, "put", 1, (("b", 7),)), (12, "add", "b", 1)]
BY_RENAME = [(1, "add", "a", 1), (3, "put", 0, (("a", 1), ("c", 7))), (4, "rename", "c", "a")]


def near_ones(seed, tries):
    """These two with a deed that is unlike, or none."""
    rng = random.Random(seed)
    for _ in range(tries):
        deeds, wish = rng.choice(((BY_DROP, (1, "b", 12, 1)), (BY_RENAME, (0, "a", 4, 7))))
        at = rng.randrange(len(deeds))
        other = with_few_values(rng, some_deed(rng, deeds[at][0], 2))
        yield rng, deeds[:at] + ([other] if rng.random() < 0.7 else [deeds[at]]) + deeds[at + 1:], wish


class Least(unittest.TestCase):
    def test_beside_going_through_all_changes(self):
        seen = {}
        for _, deeds, wish in list(some_cases(200, 900)) + list(near_ones(203, 100)):
            plain = plainly_least(deeds, wish)
            told = least_changes(Past(deeds), wish)
            self.assertEqual(told, plain, (deeds, wish))
            self.assertIs(is_so(Past(deeds), wish), plain == [])
            kind = None if plain is None else tuple(change[1][1] if change[0] == "in" else "out" for change in plain)
            seen[kind] = seen.get(kind, 0) + 1
            if told is not None:
                self.assertIs(does(Past(deeds), wish, told), True)
        kinds = {None, (), ("out",), ("put",), ("add",), ("drop",), ("rename",), ("add", "put")}
        self.assertEqual(set(seen), kinds)
        self.assertGreater(min(seen.values()), 3)

    def test_no_fewer_changes_do(self):
        for rng, deeds, wish in some_cases(201, 250):
            told = least_changes(Past(deeds), wish)
            if told is None or len(told) > 1:
                taken = {deed[0] for deed in deeds}
                moments = [moment for moment in range(1, min(wish[2], 32) + 1) if moment not in taken]
                names = names_in(deeds, wish) + ["zz"]
                changes = [("out", moment) for moment in taken]
                for moment in moments:
                    changes += [("in", (moment, "strike", key)) for key in range(2)]
                    changes += [("in", (moment, "put", wish[0], ((name, wish[3]),))) for name in names]
                    changes += [("in", (moment, "put", wish[0], some_pairs(rng)))]
                    changes += [("in", (moment, "add", name, fill)) for name in names for fill in (wish[3], 50)]
                    changes += [("in", (moment, "drop", name)) for name in names]
                    changes += [("in", (moment, "rename", *rng.sample(names, 2))) for _ in range(5)]
                for change in changes:
                    self.assertFalse(is_it(behind(deeds, change), wish))
                    self.assertIs(does(Past(deeds), wish, [change]), False)

    def test_told(self):
        self.assertEqual(least_changes(PAST, (0, "a", 3, 7)), [("in", (3, "put", 0, (("a", 7),)))])
        self.assertEqual(least_changes(PAST, (0, "b", 3, 7)), [("in", (3, "add", "b", 7)), ("in", (1, "put", 0, ()))])
        self.assertEqual(least_changes(PAST, (0, "a", 3, 5)), [("in", (1, "put", 0, ()))])
        self.assertEqual(least_changes(PAST, (0, "a", 1, 5)), None)
        self.assertEqual(least_changes(PAST, (0, "a", 0, 5)), None)
        self.assertEqual(least_changes(wish=(0, "a", 2, 5), past=PAST), [("in", (1, "put", 0, ()))])
        past = Past([(1, "add", "a", 5), (2, "put", 0, ()), (3, "strike", 0), (5, "drop", "a")])
        self.assertEqual(least_changes(past, (0, "a", 4, 5)), [("out", 3)])
        self.assertEqual(least_changes(past, (0, "a", 2, 5)), [])
        self.assertEqual(least_changes(past, (0, "a", 5, 5)), None)
        self.assertEqual(least_changes(past, (0, "a", 7, 5)), [("in", (6, "add", "a", 5)), ("in", (4, "put", 0, ()))])
        self.assertEqual(least_changes(past, (1, "a", 6, 5)), [("in", (6, "add", "a", 5)), ("in", (4, "put", 1, ()))])
        self.assertEqual(least_changes(past, (1, "a", 5, 5)), None)

    def test_the_columns_names_change(self):
        past = Past([(1, "add", "a", 5), (3, "rename", "a", "b"), (5, "rename", "b", "c"), (7, "strike", 0)])
        self.assertEqual(least_changes(past, (0, "c", 9, 8)), [("in", (8, "put", 0, (("c", 8),)))])
        self.assertEqual(least_changes(past, (0, "c", 6, 8)), [("in", (2, "put", 0, (("a", 8),)))])
        put = past.with_deed((8, "put", 0, ()))
        self.assertEqual(least_changes(put, (0, "b", 8, 5)), [("out", 5)])
        self.assertEqual(least_changes(put, (0, "zz", 8, 5)), [("in", (2, "add", "zz", 5))])
        self.assertEqual(least_changes(put, (0, "zz", 8, 9)), [("in", (2, "add", "zz", 9))])

    def test_room_for_two(self):
        past = Past([(1, "add", "a", 5), (2, "strike", 0), (3, "strike", 1)])
        self.assertEqual(least_changes(past, (0, "b", 3, 5)), None)
        self.assertEqual(least_changes(past, (0, "b", 4, 5)), None)
        two = [("in", (4, "add", "b", 5)), ("in", (5, "put", 0, ()))]
        self.assertEqual(least_changes(past, (0, "b", 5, 5)), two)
        self.assertEqual(least_changes(Past([]), (0, "b", 1, 5)), None)
        two = [("in", (1, "add", "b", 5)), ("in", (2, "put", 0, ()))]
        self.assertEqual(least_changes(Past([]), (0, "b", 2, 5)), two)

    def test_more_than_twenty_deeds(self):
        twenty = Past([(moment, "strike", 1) for moment in range(1, 21)])
        self.assertEqual(len(least_changes(twenty, (0, "b", 30, 5))), 2)
        more = twenty.with_deed((21, "add", "b", 5)).without(20)
        self.assertEqual(least_changes(more, (0, "b", 30, 5)), [("in", (20, "put", 0, ()))])
        so = more.with_deed((22, "put", 0, ()))
        self.assertIs(is_so(so, (0, "b", 30, 5)), True)
        raised(self, TooMany, 20, least_changes, so, (0, "b", 30, 5))
        raised(self, TooMany, 20, least_changes, LONG, (0, "b", 30, 5))

    def test_told_lists_may_be_changed(self):
        least_changes(PAST, (0, "a", 3, 7)).clear()
        self.assertEqual(len(least_changes(PAST, (0, "a", 3, 7))), 1)
        so = Past([(1, "add", "a", 5), (2, "put", 0, ())])
        least_changes(so, (0, "a", 3, 5)).append(1)
        self.assertEqual(least_changes(so, (0, "a", 3, 5)), [])

    def test_many_names(self):
        names = [one + other for one in "abcdefgh" for other in "abcdefghi"]
        deeds = [(2 * at + 1, "add", names[at], at) for at in range(10)]
        for at in range(10):
            deeds.append((2 * at + 21, "put", 1, tuple((name, 3) for name in names[10 + 4 * at:14 + 4 * at])))
        for wish in ((1, "ai", 999, 77), (0, "zz", 999, 77), (1, "hh", 41, 0), (1, "ad", 40, 9)):
            told = least_changes(Past(deeds), wish)
            self.assertIs(does(Past(deeds), wish, told), True)
            self.assertEqual(len(told), 2 if wish[0] == 0 else 1)
        self.assertEqual(least_changes(Past(deeds), (1, "ai", 999, 77)), [("in", (2, "add", "ai", 77))])


class Does(unittest.TestCase):
    def test_beside_changing_one_behind_the_other(self):
        seen = set()
        for rng, deeds, wish in some_cases(202, 500):
            own, changes = list(deeds), []
            for _ in range(rng.randrange(4)):
                free = [moment for moment in range(1, 40) if moment not in {deed[0] for deed in own}]
                change = ("in", some_deed(rng, rng.choice(free), 2))
                if own and rng.random() < 0.4:
                    change = ("out", rng.choice(own)[0])
                changes.append(change)
                own = behind(own, change)
            told = answer_at(own, *wish[:3])
            meant = wish if rng.random() < 0.4 or not isinstance(told, int) else wish[:3] + (told,)
            self.assertIs(does(Past(deeds), meant, rng.choice((list, tuple))(changes)), is_it(own, meant))
            seen.add(is_it(own, meant))
        self.assertEqual(seen, {False, True})

    def test_more_than_sixty_deeds(self):
        changes = [("in", (61, "add", "a", 3)), ("in", (62, "put", 1, (("b", 1), ("a", 4)))), ("out", 60)]
        self.assertIs(does(LONG, (1, "a", 62, 4), changes), True)
        self.assertIs(does(LONG, (1, "a", 61, 4), changes), False)
        self.assertIs(does(changes=changes + [("out", 62)], wish=(1, "a", 62, 4), past=LONG), False)

    def test_the_first_that_is_no_change_then(self):
        put, out = ("in", (5, "put", 0, ())), ("out", 5)
        self.assertIs(does(PAST, (0, "a", 5, 5), [put, out, put]), True)
        self.assertIs(does(PAST, (0, "a", 5, 5), []), False)
        raised(self, NoChange, out, does, PAST, (0, "a", 5, 5), [put, out, out])
        raised(self, NoChange, put, does, PAST, (0, "a", 5, 5), (put, put, None))
        for value in odd_values() + [("in", (2, "strike", 0)), ("out", 3), ["out", 2], ("out", True)]:
            raised(self, NoChange, value, does, PAST, (0, "a", 5, 5), [put, value, put])
            if value.__class__ not in (list, tuple):
                raised(self, NoChange, None, does, PAST, (0, "a", 5, 5), value)
                raised(self, NoChange, None, does, changes=value, wish=(0, "a", 5, 5), past=PAST)


class Refusals(unittest.TestCase):
    def test_pasts_and_wishes(self):
        for value in odd_values() + [PAST.deeds()]:
            raised(self, NoPast, value, is_so, value, None)
            raised(self, NoPast, value, least_changes, value, None)
            raised(self, NoPast, value, does, value, None, None)
        wrong = [(10, "a", 1, 1), (True, "a", 1, 1), (0, "A", 1, 1), (0, "a", 1000, 1), (0, "a", True, 1),
                 (0, "a", -1, 1), (0, "a", 1, 100), (0, "a", 1, True), (0, "a", 1), (0, "a", 1, 1, 1), [0, "a", 1, 1],
                 (0, "a", 1, "no row")]
        wrong += [(0, "a", 1, 1)[:place] + (value,) + (0, "a", 1, 1)[place + 1:] for value in odd_values()
                  for place in range(4) if not (place == 1 and repr(value) == "'put'")]
        for value in odd_values() + wrong:
            raised(self, NoWish, value, is_so, PAST, value)
            raised(self, NoWish, value, is_so, wish=value, past=PAST)
            raised(self, NoWish, value, least_changes, LONG, value)
            raised(self, NoWish, value, does, PAST, value, None)


if __name__ == "__main__":
    unittest.main()
