import random
import unittest
from itertools import combinations, product

from plainstore.errors import NoCount, NoMoves, NoPage, NoWay
from plainstore.walks import RULES, accepts_walk, distance, is_let, least_moves, most_missed, sights, walk_paper
from tests.kinds import Yes, odd_values, raised


class Walk:
    """A walk step by step, and one record that lies on a page and moves."""

    def __init__(self, pages, rule, begin, page):
        self.rule = rule
        self.order = [(begin + step) % pages for step in range(pages)]
        self.page = page
        self.visited = []
        self.lain = {page}
        self.seen = 0

    def visit(self):
        here = self.order[len(self.visited)]
        self.visited.append(here)
        self.seen += here in (self.lain if self.rule == "left" else {self.page})

    def may_move(self, page):
        if not self.visited or len(self.visited) == len(self.order) or page == self.page:
            return False
        return not (self.rule == "barred" and self.page not in self.visited and page in self.visited)

    def move(self, page):
        self.page = page
        self.lain.add(page)


def judged(pages, rule, begin, page, moves):
    """The index of the first wrong move, or None, and how many sights there are."""
    walk = Walk(pages, rule, begin, page)
    walk.visit()
    for index, (visit, other) in enumerate(moves):
        if not 0 <= visit < pages or not 0 <= other < pages or visit < len(walk.visited) - 1:
            return index, None
        while len(walk.visited) <= visit:
            walk.visit()
        if not walk.may_move(other):
            return index, None
        walk.move(other)
    while len(walk.visited) < pages:
        walk.visit()
    return None, walk.seen


def all_moves(pages, length):
    for size in range(length + 1):
        yield from product(product(range(-1, pages + 1), range(-1, pages + 1)), repeat=size)


class Distances(unittest.TestCase):
    def test_rules(self):
        self.assertEqual(RULES, ("barred", "free", "left"))

    def test_beside_walking(self):
        for pages in range(1, 7):
            for begin in range(pages):
                for page in range(pages):
                    walk = Walk(pages, "free", begin, page)
                    self.assertEqual(distance(pages, begin, page), walk.order.index(page))
        self.assertEqual(distance(page=0, begin=4, pages=6), 2)


class Moves(unittest.TestCase):
    def test_beside_moving_one_by_one(self):
        for pages, length in ((1, 2), (2, 2), (3, 2)):
            for rule, begin, page in product(RULES, range(pages), range(pages)):
                for moves in all_moves(pages, length):
                    self.check(pages, rule, begin, page, list(moves))

    def test_beside_moving_many(self):
        rng = random.Random(90)
        for _ in range(6000):
            pages = rng.randrange(2, 7)
            visits = sorted(rng.randrange(pages - 1) for _ in range(rng.randrange(7)))
            moves = tuple((visit, rng.randrange(pages)) for visit in visits)
            self.check(pages, rng.choice(RULES), rng.randrange(pages), rng.randrange(pages), moves)

    def check(self, pages, rule, begin, page, moves):
        wrong, seen = judged(pages, rule, begin, page, moves)
        self.assertIs(is_let(pages, rule, begin, page, moves), wrong is None)
        if wrong is None:
            self.assertEqual(sights(pages, rule, begin, page, moves), seen)
            if rule != "free":
                self.assertGreaterEqual(seen, 1)
        else:
            raised(self, NoMoves, wrong, sights, pages, rule, begin, page, moves)

    def test_by_each_rule(self):
        self.assertEqual([sights(3, rule, 0, 2, [(0, 1)]) for rule in RULES], [1, 1, 2])
        self.assertEqual([sights(3, rule, 0, 2, [(1, 1)]) for rule in ("free", "left")], [0, 1])
        self.assertEqual([sights(3, rule, 0, 0, [(0, 1), (1, 2)]) for rule in RULES], [3, 3, 3])
        self.assertEqual([is_let(3, rule, 0, 2, [(1, 1)]) for rule in RULES], [False, True, True])
        self.assertEqual([is_let(3, rule, 0, 0, [(1, 1)]) for rule in RULES], [True, True, True])
        self.assertEqual([is_let(3, rule, 0, 1, [(1, 0)]) for rule in RULES], [True, True, True])
        self.assertEqual(sights(moves=((0, 0), (0, 1)), page=1, begin=0, rule="free", pages=2), 1)

    def test_any_value(self):
        for rule in RULES:
            for value in odd_values() + [{(0, 1): 1}, {(0, 1)}, "ab", 3, iter([(0, 1)])]:
                is_none = repr(value) in ("[]", "()")
                self.assertIs(is_let(3, rule, 0, 0, value), is_none)
                if value.__class__ not in (list, tuple):
                    raised(self, NoMoves, None, sights, 3, rule, 0, 0, value)
                elif not is_none:
                    raised(self, NoMoves, 0, sights, 3, rule, 0, 0, value)
                raised(self, NoMoves, 1, sights, 3, rule, 0, 0, [(0, 1), value])
            for move in ([0, 2], (0,), (0, 2, 0), (False, 2), (0, True), (0, 2.0), (0, Yes()), (Yes(), 2)):
                self.assertIs(is_let(3, rule, 0, 0, [(0, 1), move]), False)
                raised(self, NoMoves, 1, sights, 3, rule, 0, 0, ((0, 1), move, None))
            self.assertIs(is_let(moves=[(0, 1), (1, 0), (1, 2)], page=0, begin=0, rule=rule, pages=3), True)


class Papers(unittest.TestCase):
    def judge_none(self, pages, rule, states):
        """Whether states are closed, by walking on from each of them."""
        known = set(states)
        if list(states) != sorted(known):
            return False
        if any((begin, 0, (page,), 0) not in known for begin in range(pages) for page in range(pages)):
            return False
        for begin, done, own, seen in states:
            if done == pages:
                if not seen:
                    return False
                continue
            here = (begin + done) % pages
            if (begin, done + 1, own, 1 if here in own else seen) not in known:
                return False
            visited = {(begin + step) % pages for step in range(done)}
            for other in range(pages):
                if done and rule == "left" and (begin, done, tuple(sorted({*own, other})), seen) not in known:
                    return False
                if done and rule == "free" and (begin, done, (other,), seen) not in known:
                    return False
                is_back = other in visited and own[0] not in visited
                if done and rule == "barred" and not is_back and (begin, done, (other,), seen) not in known:
                    return False
        return True

    def test_told_papers(self):
        for pages, rule in product(range(1, 7), RULES):
            paper = walk_paper(pages, rule)
            self.assertIs(accepts_walk(pages, rule, paper), True)
            if rule == "free" and pages > 1:
                word, begin, page, moves = paper
                self.assertEqual((word, judged(pages, rule, begin, page, moves)), ("miss", (None, 0)))
            else:
                self.assertEqual((len(paper), paper[0]), (2, "none"))
                self.assertTrue(self.judge_none(pages, rule, paper[1]))
                self.assertIs(accepts_walk(pages, rule, ("none", tuple(paper[1]))), True)

    def test_each_state_is_needed(self):
        for pages, rule in ((1, "free"), (1, "left"), (2, "barred"), (2, "left"), (3, "barred"), (3, "left")):
            states = walk_paper(pages, rule)[1]
            for place in range(len(states)):
                left = states[:place] + states[place + 1:]
                self.assertIs(accepts_walk(pages, rule, ("none", left)), False)

    def test_other_states(self):
        rng = random.Random(91)
        for pages, rule in ((1, "barred"), (2, "barred"), (2, "left"), (3, "barred"), (3, "left"), (2, "free")):
            owns = [(page,) for page in range(pages)]
            if rule == "left":
                owns = [own for size in range(1, pages + 1) for own in combinations(range(pages), size)]
            every = sorted(product(range(pages), range(pages + 1), owns, (0, 1)))
            seen = [state for state in every if state[3] == 1]
            told = walk_paper(pages, rule)[1] if rule != "free" else every
            answers = set()
            for _ in range(150):
                more = rng.sample(every, rng.choice((0, 1, 1, 2)))
                states = sorted({*told, *more, *rng.choice(([], seen))})
                expected = self.judge_none(pages, rule, states)
                answers.add(expected)
                self.assertIs(accepts_walk(pages, rule, ("none", states)), expected)
            self.assertEqual(answers, {False} if rule == "free" else {True, False})

    def test_order_and_form_of_states(self):
        states = walk_paper(2, "left")[1]
        self.assertIs(accepts_walk(value=("none", states), rule="left", pages=2), True)
        self.assertIs(accepts_walk(2, "barred", ("none", states)), False)
        self.assertIs(accepts_walk(3, "left", ("none", states)), False)
        for wrong in (states[::-1], states + states[-1:], states[:1] + states, dict.fromkeys(states), set(states),
                      [list(state) for state in states], [], None, states + [None], [Yes()] + states):
            self.assertIs(accepts_walk(2, "left", ("none", wrong)), False)
        for state in ((False, 0, (0,), 0), (0, 0, (0,), False), (0, 0, [0], 0), (0, 0, (False,), 0), (0, 0, (0,), 2),
                      (0, 3, (0,), 1), (2, 0, (0,), 0), (0, 0, (2,), 0), (0, 0, (0,)), (0, 0, (0,), 0, 0), (0, 0, 0, 0),
                      (0, 2, (1, 0), 1), (0, 2, (0, 0), 1), (0, -1, (0,), 0), (0, 2, (), 1)):
            self.assertIs(accepts_walk(2, "left", ("none", sorted(states[1:] + [state], key=repr))), False)
            self.assertIs(accepts_walk(2, "left", ("none", states + [state])), False)
        several = sorted(walk_paper(3, "barred")[1] + [(0, 3, (0, 1), 1)])
        self.assertIs(accepts_walk(3, "barred", ("none", several)), False)
        self.assertIs(accepts_walk(2, "free", ("none", walk_paper(2, "barred")[1])), False)

    def test_more_that_is_no_state_where_all_else_is_right(self):
        for rule in ("barred", "left"):
            states = sorted({*walk_paper(2, rule)[1], *((begin, 2, (page,), 1) for begin in (0, 1) for page in (0, 1))})
            self.assertIs(accepts_walk(2, rule, ("none", states)), True)
            self.assertIs(accepts_walk(2, rule, ("some", states)), False)
            self.assertIs(accepts_walk(2, rule, ("none", states, states)), False)
            # None of these has any state behind it that is not among them.
            for more in ([(2, 2, (0,), 1)], [(-1, 2, (0,), 1)], [(0, 2, (0,), 2)], [(0, 2, (1, 0), 1)],
                         [(0, 2, (0, 0), 1)],
                         [(0, 2, (2,), 1)], [(0, 2, (-1,), 1)], [(0, 2, (), 1)], [(0, 2, (0, 1, 2), 1)],
                         [(0, -1, (0,), 1), (0, 0, (0,), 1)], [(0, 2, (-1, 0), 1)], [(0, 2, (0,), -1)]):
                self.assertIs(accepts_walk(2, rule, ("none", sorted(states + more))), False)
            for place, (begin, done, own, seen) in enumerate(states):
                for alike in ((bool(begin), done, own, seen), (begin, done, tuple(map(bool, own)), seen),
                              (begin, done, own, bool(seen)), (float(begin), done, own, seen)):
                    self.assertIs(accepts_walk(2, rule, ("none", states[:place] + [alike] + states[place + 1:])), False)
                if done < 2:
                    alike = states[:place] + [(begin, bool(done), own, seen)] + states[place + 1:]
                    self.assertIs(accepts_walk(2, rule, ("none", alike)), False)

    def test_misses(self):
        for pages in (2, 3):
            for rule, begin, page in product(RULES, range(pages), range(pages)):
                for moves in all_moves(pages, 2):
                    right = judged(pages, rule, begin, page, moves) == (None, 0)
                    self.assertIs(accepts_walk(pages, rule, ("miss", begin, page, list(moves))), right)
        self.assertIs(accepts_walk(2, "free", ("miss", 0, 1, ((0, 0),))), True)
        self.assertIs(accepts_walk(3, "free", ("miss", 0, 1, ((0, 0),))), True)
        self.assertIs(accepts_walk(3, "free", ("miss", 0, 1, [(0, 2), (1, 1)])), True)

    def test_any_value(self):
        right = ("miss", 0, 1, [(0, 0)])
        for value in odd_values() + [list(right), right[:3], right + (1,), ("none",), ("none", [], []),
                                     ("Miss",) + right[1:],
                                     ("some", []), ("none", None), (None, []), "none", ("none", right)]:
            for rule in RULES:
                self.assertIs(accepts_walk(2, rule, value), False)
        for value in odd_values():
            for place in range(4):
                self.assertIs(accepts_walk(2, "free", right[:place] + (value,) + right[place + 1:]), False)
            self.assertIs(accepts_walk(1, "free", ("none", value)), False)
        self.assertIs(accepts_walk(2, "free", ("miss", 2, 1, [])), False)
        self.assertIs(accepts_walk(2, "free", ("miss", 0, 2, [])), False)
        self.assertIs(accepts_walk(2, "free", ("miss", 0, -1, [])), False)
        self.assertIs(accepts_walk(2, "free", ("miss", 1, 0, [(0, 1)])), True)
        for begin in (-1, 2, 3):
            for page in (0, 1):
                self.assertIs(accepts_walk(2, "free", ("miss", begin, page, [(0, 1 - page)])), False)


class LeastMoves(unittest.TestCase):
    def plain_least(self, pages, begins, page):
        """Beside going through all moves: ever more of them, between all visits."""
        visits = [(begin + step) % pages for begin in begins for step in range(pages)]
        # What is left, by the number of moves made so far: the pages on which it may lie without having been seen.
        best = None
        stack = [(0, page, 0)]
        seen = set()
        while stack:
            state = stack.pop()
            number, own, made = state
            if state in seen or best is not None and made >= best or visits[number] == own:
                continue
            seen.add(state)
            if number + 1 == len(visits):
                best = made
                continue
            stack += [(number + 1, other, made + (other != own)) for other in range(pages)]
        return best

    def test_beside_going_through_all_moves(self):
        for pages in range(1, 7):
            for count in (1, 2, 3):
                if pages ** count <= 64:
                    for begins in product(range(pages), repeat=count):
                        for page in range(pages):
                            self.assertEqual(least_moves(pages, begins, page), self.plain_least(pages, begins, page))

    def test_many_walks(self):
        rng = random.Random(92)
        for _ in range(60):
            pages = rng.randrange(1, 7)
            begins = [rng.randrange(pages) for _ in range(rng.randrange(1, 6))]
            page = rng.randrange(pages)
            self.assertEqual(least_moves(pages, begins, page), self.plain_least(pages, begins, page))

    def test_told(self):
        self.assertIsNone(least_moves(1, [0], 0))
        self.assertIsNone(least_moves(3, [1, 2], 1))
        self.assertEqual(least_moves(2, [0], 1), 1)
        self.assertEqual(least_moves(2, (0, 0), 1), 3)
        self.assertEqual(least_moves(2, (0, 1), 1), 2)
        self.assertEqual(least_moves(page=2, begins=[0, 0, 0, 0, 0], pages=3), 7)

    def test_most_missed(self):
        rng = random.Random(93)
        for _ in range(300):
            pages = rng.randrange(1, 7)
            begins = tuple(rng.randrange(pages) for _ in range(rng.randrange(1, 4)))
            places = [rng.randrange(pages) for _ in range(rng.randrange(6))]
            count = rng.randrange(14)
            needs = [self.plain_least(pages, begins, page) for page in places]
            best = 0
            for choice in product((False, True), repeat=len(places)):
                chosen = [need for need, is_chosen in zip(needs, choice) if is_chosen]
                if None not in chosen and sum(chosen) <= count:
                    best = max(best, len(chosen))
            self.assertEqual(most_missed(pages, begins, places, count), best)
        self.assertEqual(most_missed(2, [0], [1] * 20, 10 ** 30), 20)
        self.assertEqual(most_missed(count=19, places=(1,) * 20, begins=(0,), pages=2), 19)
        self.assertEqual(most_missed(2, [0], [], 0), 0)
        self.assertEqual([least_moves(3, [0, 0], page) for page in (0, 1, 2)], [None, 3, 2])
        self.assertEqual([most_missed(3, [0, 0], [1, 0, 2, 2], count) for count in range(9)],
                         [0, 0, 1, 1, 2, 2, 2, 3, 3])
        self.assertEqual(most_missed(2, [0], [0, 1, 0], 0), 0)


class Refusals(unittest.TestCase):
    def test_pages(self):
        for value in odd_values() + [0, 7]:
            raised(self, NoCount, value, distance, value, -1, -1)
            raised(self, NoCount, value, is_let, value, "no", -1, -1, None)
            raised(self, NoCount, value, sights, value, "no", -1, -1, None)
            raised(self, NoCount, value, walk_paper, value, "no")
            raised(self, NoCount, value, accepts_walk, value, "no", None)
            raised(self, NoCount, value, least_moves, value, [], -1)
            raised(self, NoCount, value, most_missed, value, [], None, -1)

    def test_rules(self):
        for value in odd_values() + ["Free", "frees", "", ("free",), ["left"]]:
            raised(self, NoWay, value, is_let, 2, value, -1, -1, None)
            raised(self, NoWay, value, sights, 2, value, -1, -1, None)
            raised(self, NoWay, value, walk_paper, 2, value)
            raised(self, NoWay, value, accepts_walk, 2, value, None)

    def test_page(self):
        for value in odd_values() + [2]:
            raised(self, NoPage, value, distance, 2, value, None)
            raised(self, NoPage, value, distance, page=value, begin=1, pages=2)
            for call in (is_let, sights):
                raised(self, NoPage, value, call, 2, "free", value, None, None)
                raised(self, NoPage, value, call, 2, "free", 0, value, None)
            raised(self, NoPage, value, least_moves, 2, [0], value)

    def test_begins_places_and_counts(self):
        for value in odd_values() + [[], (), [0] * 6, [0, 2], [0, -1], [True], {0: 1}, {0}, "0"]:
            if repr(value) in ("[1]", "(1,)"):
                continue
            raised(self, NoPage, value, least_moves, 2, value, None)
            raised(self, NoPage, value, most_missed, 2, value, None, None)
            if repr(value) not in ("[]", "()", "[0, 0, 0, 0, 0, 0]"):
                raised(self, NoPage, value, most_missed, 2, [0], value, None)
        raised(self, NoPage, [1] * 21, most_missed, 2, [0], [1] * 21, None)
        for value in odd_values():
            if repr(value) != str(10 ** 30):
                raised(self, NoCount, value, most_missed, 2, [0], [1], value)


if __name__ == "__main__":
    unittest.main()
