import random
import unittest

from plainstore.deciders import accepts_answer, answer_paper, are_enough, deciders, deciders_of
from plainstore.errors import NoKey, NoMoment, NoName, NoPast
from plainstore.pasts import Past
from plainstore.plain import ask
from tests.kinds import odd_values, raised
from tests.reckon import END, NAMES, idle_moments, some_pasts, states

DEEDS = [
    (1, "add", "a", 5), (2, "add", "a", 6), (3, "put", 0, (("a", 1), ("b", 2))), (4, "put", 0, (("a", 3), ("b", 4))),
    (5, "put", 1, ()), (6, "strike", 1), (7, "rename", "a", "b"), (8, "put", 2, ()), (9, "drop", "b"),
]
PAST = Past(DEEDS)


def plain_answer(deeds, key, name, t):
    state = states([deed for deed in deeds if deed[0] <= t])[END]
    if state.place(name) is None:
        return "no column"
    return "no row" if state.row(key) is None else state.row(key)[name]


def plain_deciders(deeds, keys, t):
    idle = idle_moments(deeds)
    told = []
    for deed in deeds:
        if deed[1] in ("put", "strike"):
            words = (("put", deed[2]), ("strike", deed[2]))
            later = [other for other in deeds if deed[0] < other[0] <= t and other[1:3] in words]
            meant = deed[2] in keys and not later
        else:
            meant = deed[0] not in idle
        if meant and deed[0] <= t:
            told.append(deed)
    return told


class Deciders(unittest.TestCase):
    def test_by_hand(self):
        self.assertEqual([deed[0] for deed in deciders(PAST, 8)], [1, 4, 6, 7, 8])
        self.assertEqual([deed[0] for deed in deciders(PAST, 5)], [1, 4, 5])
        self.assertEqual([deed[0] for deed in deciders_of(PAST, 0, 8)], [1, 4, 7])
        self.assertEqual([deed[0] for deed in deciders_of(PAST, 1, 8)], [1, 6, 7])
        self.assertEqual([deed[0] for deed in deciders_of(PAST, 9, 999)], [1, 7, 9])
        self.assertEqual((deciders(PAST, 0), deciders_of(PAST, 0, 0)), ([], []))
        self.assertEqual(deciders(t=1, past=PAST), [DEEDS[0]])
        self.assertEqual(deciders_of(t=3, key=0, past=PAST), [DEEDS[0], DEEDS[2]])

    def test_beside_the_plain_reckoning(self):
        for deeds in some_pasts(13, 32):
            past = Past(deeds)
            for t in sorted({0, 1, 500, END}.union(*[(deed[0] - 1, deed[0]) for deed in deeds])):
                self.assertEqual(deciders(past, t), plain_deciders(deeds, range(10), t))
                for key in (0, 1, 9):
                    self.assertEqual(deciders_of(past, key, t), plain_deciders(deeds, [key], t))

    def test_they_give_the_plain_answer_with_any_more_of_the_past(self):
        rng = random.Random(14)
        for deeds in some_pasts(14, 64):
            past = Past(deeds)
            for _ in range(6):
                t, key, name = rng.choice((END, rng.randrange(END + 1))), rng.randrange(4), rng.choice(NAMES)
                right = plain_answer(deeds, key, name, t)
                self.assertEqual(ask(past, key, name, t), right)
                some = deciders_of(past, key, t)
                self.assertEqual(ask(Past(some), key, name, t), right)
                self.assertEqual(ask(Past(deciders(past, t)), key, name, t), right)
                more = [deed for deed in deeds if deed in some or rng.random() < 0.5]
                self.assertEqual(ask(Past(more), key, name, t), right)

    def test_told_may_be_changed(self):
        deciders(PAST, 8).clear()
        deciders_of(PAST, 0, 8).clear()
        self.assertEqual((len(deciders(PAST, 8)), len(deciders_of(PAST, 0, 8))), (5, 3))


class AreEnough(unittest.TestCase):
    def test_with_more_with_one_less_twice_and_later_ones(self):
        some = deciders_of(PAST, 0, 8)
        self.assertIs(are_enough(PAST, 0, 8, some), True)
        self.assertIs(are_enough(PAST, 0, 8, tuple(some)), True)
        self.assertIs(are_enough(PAST, 0, 8, DEEDS[:8]), True)
        self.assertIs(are_enough(PAST, 0, 8, DEEDS[:8][::-1]), True)
        for place in range(len(some)):
            self.assertIs(are_enough(PAST, 0, 8, some[:place] + some[place + 1:]), False)
        for deed in DEEDS[:8]:
            self.assertIs(are_enough(PAST, 0, 8, DEEDS[:8] + [deed]), False)
        self.assertIs(are_enough(PAST, 0, 8, DEEDS), False)
        self.assertIs(are_enough(PAST, 0, 8, some + [(10, "drop", "b")]), False)
        self.assertIs(are_enough(value=some, t=8, key=0, past=PAST), True)

    def test_pairs_in_another_order(self):
        turned = (4, "put", 0, (("b", 4), ("a", 3)))
        self.assertIs(are_enough(PAST, 0, 8, [DEEDS[0], turned, DEEDS[6]]), True)
        self.assertIs(are_enough(PAST, 0, 8, [DEEDS[0], turned, DEEDS[6], DEEDS[3]]), False)
        self.assertIs(are_enough(PAST, 0, 8, [DEEDS[0], (4, "put", 0, (("b", 3), ("a", 4))), DEEDS[6]]), False)

    def test_deeds_that_the_past_does_not_have(self):
        some = deciders_of(PAST, 0, 8)
        for deed in ((2, "add", "a", 7), (2, "drop", "a"), (8, "strike", 2), (4, "put", 0, (("a", 3),))):
            self.assertIs(are_enough(PAST, 0, 8, some + [deed]), False)

    def test_none_are_needed(self):
        for value in ([], ()):
            self.assertIs(are_enough(PAST, 0, 0, value), True)
            self.assertIs(are_enough(Past(), 0, 999, value), True)
            self.assertIs(are_enough(PAST, 0, 1, value), False)
        self.assertIs(are_enough(PAST, 0, 0, DEEDS[:1]), False)

    def test_any_value(self):
        some = deciders_of(PAST, 0, 8)
        for value in odd_values() + [PAST, "add", {1: some[0]}, {some[0]: True}, 3]:
            self.assertIs(are_enough(PAST, 0, 8, value), False)
            self.assertIs(are_enough(PAST, 0, 8, some + [value]), False)
            if value.__class__ not in (list, tuple):
                self.assertIs(are_enough(PAST, 0, 0, value), False)
        self.assertIs(are_enough(PAST, 0, 8, [list(deed) for deed in some]), False)
        self.assertIs(are_enough(PAST, 0, 8, [(True, "add", "a", 5)] + some[1:]), False)


class Papers(unittest.TestCase):
    def test_papers(self):
        self.assertEqual(answer_paper(PAST, 0, "b", 8), ("answer", 0, "b", 8, [DEEDS[0], DEEDS[3], DEEDS[6]], 3))
        self.assertEqual(answer_paper(PAST, 1, "b", 8), ("answer", 1, "b", 8, [DEEDS[0], DEEDS[5], DEEDS[6]], "no row"))
        self.assertEqual(answer_paper(PAST, 1, "b", 9)[5], "no column")
        self.assertEqual(answer_paper(t=0, name="b", key=0, past=PAST), ("answer", 0, "b", 0, [], "no column"))

    def test_told_papers_are_accepted(self):
        for deeds in some_pasts(15, 24):
            past = Past(deeds)
            for t in (0, 5, 20, 70, END):
                for key in (0, 2):
                    for name in NAMES[:3]:
                        paper = answer_paper(past, key, name, t)
                        self.assertEqual(paper[5], plain_answer(deeds, key, name, t))
                        self.assertEqual(paper[4], plain_deciders(deeds, [key], t))
                        self.assertIs(accepts_answer(past, paper), True)

    def test_other_deeds(self):
        paper = answer_paper(PAST, 0, "b", 8)
        turned = [DEEDS[0], (4, "put", 0, (("b", 4), ("a", 3))), DEEDS[6]]
        for deeds, right in (
            (tuple(paper[4]), True), (DEEDS[:8], True), (paper[4][::-1], True), (paper[4][1:], False), (DEEDS, False),
            (paper[4] * 2, False), (None, False), ([None], False), (turned, True),
        ):
            self.assertIs(accepts_answer(PAST, paper[:4] + (deeds,) + paper[5:]), right)

    def test_another_answer(self):
        paper = answer_paper(PAST, 0, "b", 8)
        self.assertEqual(paper[5], 3)
        for told in [4, 2, "no row", "no column", "3", 3.0] + odd_values():
            self.assertIs(accepts_answer(PAST, paper[:5] + (told,)), False)
        for paper in (answer_paper(PAST, 1, "b", 8), answer_paper(PAST, 1, "b", 9)):
            for told in [4, "no rows", "no col"] + odd_values():
                self.assertIs(accepts_answer(PAST, paper[:5] + (told,)), False)

    def test_one_and_true_are_unlike(self):
        past = Past([(1, "add", "a", 1), (2, "add", "b", 0), (3, "put", 0, ())])
        for name, right, wrong in (("a", 1, (True, 1.0, 0)), ("b", 0, (False, 0.0, 1))):
            paper = answer_paper(past, 0, name, 3)
            self.assertEqual(paper[5], right)
            self.assertIs(accepts_answer(past, paper), True)
            for told in wrong:
                self.assertIs(accepts_answer(past, paper[:5] + (told,)), False)
        paper = answer_paper(past, 1, "a", 1)
        self.assertIs(accepts_answer(past, paper), True)
        self.assertIs(accepts_answer(past, paper[:1] + (True,) + paper[2:]), False)
        self.assertIs(accepts_answer(past, paper[:3] + (True,) + paper[4:]), False)

    def test_any_value_in_any_place(self):
        paper = answer_paper(PAST, 0, "b", 8)
        for value in odd_values():
            self.assertIs(accepts_answer(PAST, value), False)
            for place in range(6):
                self.assertIs(accepts_answer(PAST, paper[:place] + (value,) + paper[place + 1:]), False)
        for other in (list(paper), paper[:5], paper + (1,), ("answers",) + paper[1:], ("",) + paper[1:]):
            self.assertIs(accepts_answer(PAST, other), False)
        for place, value in ((1, 10), (1, -1), (2, "B"), (2, "abcde"), (3, -1), (3, 1000), (3, 9), (3, 7)):
            self.assertIs(accepts_answer(PAST, paper[:place] + (value,) + paper[place + 1:]), place == 3 and value == 7)

    def test_of_another_past(self):
        self.assertIs(accepts_answer(paper=answer_paper(PAST, 0, "b", 8), past=PAST), True)
        self.assertIs(accepts_answer(PAST.without(7), answer_paper(PAST, 0, "b", 8)), False)


class Refusals(unittest.TestCase):
    def test_no_past(self):
        for value in odd_values() + [DEEDS]:
            raised(self, NoPast, value, deciders, value, -1)
            raised(self, NoPast, value, deciders_of, value, -1, -1)
            raised(self, NoPast, value, are_enough, value, -1, -1, None)
            raised(self, NoPast, value, answer_paper, value, -1, "A", -1)
            raised(self, NoPast, value, accepts_answer, paper=None, past=value)

    def test_no_key(self):
        for value in odd_values() + [10]:
            raised(self, NoKey, value, deciders_of, PAST, value, -1)
            raised(self, NoKey, value, are_enough, PAST, value, -1, None)
            raised(self, NoKey, value, answer_paper, t=-1, name="A", key=value, past=PAST)

    def test_no_name(self):
        raised(self, NoName, "A", answer_paper, PAST, 0, "A", -1)
        raised(self, NoName, None, answer_paper, t=-1, name=None, key=0, past=PAST)

    def test_no_moment(self):
        for value in odd_values() + [1000]:
            raised(self, NoMoment, value, deciders, PAST, value)
            raised(self, NoMoment, value, deciders_of, PAST, 0, value)
            raised(self, NoMoment, value, are_enough, PAST, 0, value, None)
            raised(self, NoMoment, value, answer_paper, PAST, 0, "a", value)


if __name__ == "__main__":
    unittest.main()
