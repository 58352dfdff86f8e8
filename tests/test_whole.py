"""What the document promises over the whole program, (a) to (j): parts of several modules put together."""

import random
import unittest
from itertools import combinations, product

from plainstore.changes import are_apart, changed, is_change, shown, touched
from plainstore.choosing import chosen, is_plan, least_mean, least_plan, plan_mean
from plainstore.conditions import asked, run
from plainstore.console import Console
from plainstore.copies import Copies
from plainstore.deciders import accepts_answer, answer_paper, are_enough, deciders, deciders_of
from plainstore.ends import ends, most_rows
from plainstore.errors import StoreError, TooMany
from plainstore.live import Live
from plainstore.overkeys import cheapest_over, mean_over, run_over
from plainstore.parted import mixed_outcome, parted, parted_paper
from plainstore.pasts import Past
from plainstore.pictures import past_of, picture_of, unlike
from plainstore.plain import ask, columns_at, row_at, rows_at
from plainstore.plans import cheapest, is_guarded, mean, meaning
from plainstore.rules import Rules, invented, numbered, one_row
from plainstore.settings import Setting, is_plain, verdict
from plainstore.stories import cells_at, map_at
from plainstore.support import brought, inner, support, surely
from plainstore.texts import read, write
from plainstore.views import answers_of, heard, is_settled, may_see, unfinished
from plainstore.votes import enough_lots, is_write_lot, missed_paper, write_lots
from plainstore.walked import least_bars, are_safe, unruly_case
from plainstore.walks import accepts_walk, least_moves, sights, walk_paper
from plainstore.wishes import does, is_so, least_changes
from tests.arranged import some_costs
from tests.inventions import some_ending, some_rules
from tests.plainly import lots_of
from tests.reckon import NAMES, some_deed, some_deeds, some_pasts
from tests.somes import some_condition, some_guarded

COUNTS = [(n, r, w, m, p) for n in range(1, 5) for r in range(1, n + 1) for w in range(1, n + 1) for m in range(n + 1)
          for p in (1, 2, 3)]


def some_change(rng, deeds, last=20):
    """A change of these deeds."""
    taken = [deed[0] for deed in deeds]
    moment = rng.randrange(1, last + 1)
    return ("out", moment) if moment in taken else ("in", some_deed(rng, moment, 2))


def deeds_of(records):
    """The deeds that are seen of records: at each moment that of the greatest number."""
    last = {}
    for moment, number, deed in records:
        if number >= last.get(moment, (0,))[0]:
            last[moment] = (number, deed)
    return [last[moment][1] for moment in sorted(last) if last[moment][1] is not None]


def read_by_walks(rng, live, lot, wild):
    """The records that walks through the copies of a lot see; those of wild ones are free, all others are not."""
    pages = live.setting().pages
    going = {}
    for copy in lot:
        rule = "free" if copy in wild else rng.choice(("barred", "left"))
        going[live.walk(copy, rng.randrange(pages), rule)] = copy
    seen = []
    while going:
        walk = rng.choice(sorted(going))
        told = live.step(walk)
        if told is not None:
            seen += told
            del going[walk]
        for _ in range(rng.randrange(3)):
            move_one(rng, live)
    return seen


def move_one(rng, live):
    """Move a record of some copy to any page, if this is let."""
    copy = rng.randrange(live.setting().many)
    if live.records(copy):
        moment, number, _ = rng.choice(live.records(copy))
        try:
            live.move(copy, moment, number, rng.randrange(live.setting().pages))
        except StoreError:
            pass


def lead(rng, live, lots, steps):
    """Edit, undo and redo a live store by these lots, and move its records."""
    for _ in range(steps):
        lot, word = rng.choice(lots), rng.choice(("edit", "edit", "edit", "undo", "redo"))
        done, undone = live.line()
        if word == "undo" and done:
            live.undo(lot)
        elif word == "redo" and undone:
            live.redo(lot)
        else:
            live.edit(lot, some_change(rng, live.past().deeds()))
        move_one(rng, live)


def moment_of(change):
    return change[1] if change[0] == "out" else change[1][0]


def is_touched(past, change, line, t):
    """Whether a change touches a line at this moment."""
    return any(first <= t <= last for first, last in touched(past, change).get(line, ()))


class TestsOfPasts(unittest.TestCase):
    """(a) and (b): stories, changes and deciders."""

    def test_what_changes_leave_through_edits(self):
        rng = random.Random(250)
        apart = 0
        for deeds in [some_deeds(rng, rng.randrange(2, 9), 20, 3) for _ in range(150)]:
            past = Past(deeds)
            one, other = some_change(rng, deeds), some_change(rng, deeds)
            if moment_of(one) == moment_of(other):
                continue
            if are_apart(past, one, other):
                apart += 1
                lives = []
                for changes in ((one, other), (other, one)):
                    live = Live(Setting(2, 1, 2, 0, 2), past)
                    for change in changes:
                        live.edit((0, 1), change)
                    lives.append(live)
                self.assertTrue(lives[0].past() == lives[1].past())
                self.assertEqual(touched(changed(past, other), one), touched(past, one))
                both = lives[0].past()
                for line, pairs in touched(past, one).items():
                    for first, last in pairs:
                        for t in {first, last, (first + last) // 2}:
                            if line == "columns":
                                self.assertEqual(map_at(both, t), map_at(changed(past, one), t))
                            elif not is_touched(past, other, "columns", t):
                                self.assertEqual(cells_at(both, line, t), cells_at(changed(past, one), line, t))
        self.assertGreater(apart, 20)

    def test_what_no_line_shows_stays_as_it_was(self):
        rng = random.Random(251)
        hidden = 0
        for deeds in [deeds for deeds in some_pasts(251, 50) if 0 < len(deeds) < 60]:
            past, change = Past(deeds), some_change(rng, deeds, 70)
            other = changed(past, change)
            lines = shown(past, change)
            condition, rules = some_condition(rng), Rules(some_ending(rng, names=NAMES))
            for t in sorted({0, 999, moment_of(change)} | {deed[0] for deed in deeds}):
                now = {line for line, pairs in lines.items() if any(first <= t <= last for first, last in pairs)}
                for key in range(4):
                    same = all(ask(past, key, name, t) == ask(other, key, name, t) for name in NAMES + ("q",))
                    self.assertIs(same, not {"columns", key} & now)
                    if not {"columns", key} & now:
                        self.assertEqual(picture_of(condition, past, key, t)[0] and row_at(past, key, t) != {},
                                         picture_of(condition, other, key, t)[0] and row_at(other, key, t) != {})
                        rows = [row_at(side, key, t) or {} for side in (past, other)]
                        self.assertEqual(one_row(rules, rows[0]), one_row(rules, rows[1]))
                if not now:
                    hidden += 1
                    self.assertEqual(brought(rules, past, change, t), ([], []))
                    self.assertEqual(list(support(rules, past, t).items()), list(support(rules, other, t).items()))
        self.assertGreater(hidden, 100)

    def test_deciders_are_enough_for_all(self):
        rng = random.Random(252)
        for deeds in [deeds for deeds in some_pasts(252, 30) if deeds]:
            past, t = Past(deeds), rng.choice((999, deeds[-1][0], deeds[len(deeds) // 2][0]))
            less = Past(deciders(past, t))
            condition, rules = some_guarded(rng), Rules(some_ending(rng, names=NAMES))
            self.assertEqual((columns_at(less, t), rows_at(less, t)), (columns_at(past, t), rows_at(past, t)))
            self.assertEqual(invented(rules, less, t), invented(rules, past, t))
            self.assertEqual(support(rules, less, t), support(rules, past, t))
            keys = rng.sample(list(rows_at(past, t)), len(rows_at(past, t)))
            self.assertEqual(numbered(rules, less, t, keys), numbered(rules, past, t, keys))
            self.assertEqual(run_over(condition, less, 5, t), run_over(condition, past, 5, t))
            for key in (0, 1):
                own = Past(deciders_of(past, key, t))
                self.assertEqual(meaning(condition, own, key, t), meaning(condition, past, key, t))
                self.assertEqual(picture_of(condition, own, key, t), picture_of(condition, past, key, t))
                self.assertTrue(are_enough(past, key, t, less.deeds()))
                wish = (key, "a", t, 7)
                self.assertIs(is_so(own, wish), is_so(past, wish))
                copies = Copies(1, own)
                for deed in deeds:
                    if deed[0] <= t and deed[0] not in own:
                        copies.edit((0,), ("in", deed))
                        now = copies.past()
                        self.assertEqual(row_at(now, key, t), row_at(past, key, t))
                self.assertTrue(accepts_answer(copies.past(), answer_paper(past, key, "a", t)))


class TestsOfCopies(unittest.TestCase):
    """(c) and (d): lots, views and walks."""

    def test_lots_that_are_enough_see_the_past_by_walks(self):
        rng = random.Random(253)
        for _ in range(150):
            count = rng.choice((2, 3, 4))
            votes = tuple(rng.choice((1, 1, 2, 0)) for _ in range(count))
            votes = votes if sum(votes) else (1,) * count
            need, unruly = rng.randrange(1, sum(votes) + 1), rng.randrange(3)
            unruly = min(unruly, count)
            live = Live(Setting(count, 1, 1, 0, rng.choice((1, 2, 3))), Past(some_deeds(rng, 3, 12, 2)))
            lead(rng, live, write_lots(votes, need), rng.randrange(12))
            enough = enough_lots(votes, need, unruly)
            for lot in enough[:3]:
                wild = rng.sample(lot, min(unruly, len(lot)))
                self.assertEqual(deeds_of(read_by_walks(rng, live, lot, wild)), live.past().deeds())
            for lot in [lot for lot in lots_of(count) if lot not in enough]:
                _, own, other = missed_paper(votes, need, unruly, lot)
                self.assertTrue(own == lot and is_write_lot(votes, need, other))
                self.assertLessEqual(len(set(own) & set(other)), unruly)

    def test_edits_that_are_finished_leave_answers_settled(self):
        rng = random.Random(254)
        for _ in range(60):
            votes, need, unruly = (1, 1, 1), rng.choice((2, 3)), rng.choice((0, 1))
            live = Live(Setting(3), Past(some_deeds(rng, 2, 8, 2)))
            copies = Copies(3, live.past())
            for _ in range(6):
                lot, change = rng.choice(write_lots(votes, need)), some_change(rng, live.past().deeds(), 8)
                live.edit(lot, change)
                copies.edit(lot, change)
            self.assertEqual(unfinished(copies, votes, need), [])
            self.assertEqual(heard(copies, votes, need, unruly), [1, 2, 3, 4, 5, 6])
            for key, name, t in product((0, 1), ("a", "b"), (4, 8)):
                told = answers_of(copies, votes, need, unruly, key, name, t)
                self.assertEqual(told, [live.ask(key, name, t)] if enough_lots(votes, need, unruly) else [])
                self.assertTrue(is_settled(copies, votes, need, unruly, key, name, t))
            for moment in range(1, 9):
                last = max([number for own, number, _ in live.records(0) + live.records(1) + live.records(2)
                            if own == moment], default=0)
                seen = may_see(copies, votes, need, unruly, moment)
                self.assertEqual(seen, [last] if enough_lots(votes, need, unruly) else [])

    def test_papers_of_walks_led_in_a_live_store(self):
        for pages in range(1, 5):
            for rule in ("barred", "free", "left"):
                paper = walk_paper(pages, rule)
                self.assertTrue(accepts_walk(pages, rule, paper))
                if paper[0] == "miss":
                    _, begin, page, moves = paper
                    self.assertEqual(self.told_by(pages, rule, begin, page, moves), [])
        rng = random.Random(255)
        missed = 0
        for _ in range(400):
            pages, rule = rng.randrange(1, 5), rng.choice(("barred", "free", "left"))
            begin, page = rng.randrange(pages), rng.randrange(pages)
            moves, own = [], page
            for visit in range(pages - 1):
                if rng.random() < 0.6:
                    other = rng.choice([other for other in range(pages) if other != own])
                    try:
                        sights(pages, rule, begin, page, moves + [(visit, other)])
                    except StoreError:
                        continue
                    moves.append((visit, other))
                    own = other
            told = self.told_by(pages, rule, begin, page, moves)
            self.assertEqual(bool(told), sights(pages, rule, begin, page, moves) > 0)
            missed += not told
        self.assertGreater(missed, 5)

    def told_by(self, pages, rule, begin, page, moves):
        """What a walk in a live store sees of one record that moves so."""
        live = Live(Setting(1, 1, 1, 0, pages), Past([(5, "strike", 0)]))
        if page:
            live.move(0, 5, 0, page)
        walk = live.walk(0, begin, rule)
        for visit in range(pages):
            told = live.step(walk)
            for behind, other in moves:
                if behind == visit:
                    live.move(0, 5, 0, other)
        return told

    def test_least_moves_led_in_a_live_store(self):
        for pages, begin, other in product((2, 3), range(2), range(2)):
            for page in range(pages):
                least = least_moves(pages, [begin, other], page)
                found = None
                for many in range(4):
                    for moves in combinations(product(range(2 * pages - 1), range(pages)), many):
                        if found is None and len({visit for visit, _ in moves}) == many and \
                                self.misses(pages, (begin, other), page, dict(moves)):
                            found = many
                self.assertEqual(least, found)

    def misses(self, pages, begins, page, moves):
        """Whether two free walks miss a record that moves so behind these visits of both."""
        live = Live(Setting(1, 1, 1, 0, pages), Past([(5, "strike", 0)]))
        if page:
            live.move(0, 5, 0, page)
        visit = 0
        for begin in begins:
            walk = live.walk(0, begin, "free")
            for _ in range(pages):
                if live.step(walk):
                    return False
                if visit in moves and moves[visit] != live.page_of(0, 5, 0):
                    live.move(0, 5, 0, moves[visit])
                visit += 1
        return True

    def test_bars_make_told_lots_safe(self):
        rng = random.Random(256)
        for _ in range(100):
            writes = rng.sample([lot for lot in lots_of(4) if len(lot) > 1], 3)
            reads = rng.sample([lot for lot in lots_of(4) if len(lot) > 1], 2)
            wild = rng.choice(lots_of(4))
            for bars in least_bars(writes, reads, wild)[:2]:
                left = tuple(copy for copy in wild if copy not in bars)
                self.assertTrue(are_safe(writes, reads, left))
                live = Live(Setting(4, 1, 1, 0, 2))
                lead(rng, live, writes, 6)
                for lot in reads:
                    self.assertEqual(deeds_of(read_by_walks(rng, live, lot, left)), live.past().deeds())


class TestsOfSettings(unittest.TestCase):
    """(i): a plain setting tells the past, whatever comes; the told case is one in which an answer is not plain."""

    def test_a_plain_setting_led_through_edits_reads_and_walks(self):
        rng = random.Random(257)
        plain = 0
        for _ in range(250):
            n, r, w, m, p = rng.choice(COUNTS)
            condition, rules = some_condition(rng), Rules(some_ending(rng, names=NAMES))
            setting = Setting(n, r, w, m, p, condition=condition, rules=rules)
            if verdict(setting)[1:2] == ("copies",):
                continue
            plain += 1
            live = Live(setting, Past(some_deeds(rng, 4, 16, 2)))
            lead(rng, live, list(combinations(range(n), w)), rng.randrange(12))
            lot = sorted(rng.sample(range(n), r))
            seen = Past(deeds_of(read_by_walks(rng, live, lot, rng.sample(lot, min(m, r)))))
            self.assertTrue(seen == live.past())
            for t in (5, 999):
                self.assertEqual(ask(seen, 0, "a", t), live.ask(0, "a", t))
                self.assertEqual(run(setting.plan, seen, 1, t), live.run(1, t))
                self.assertEqual(invented(rules, seen, t), live.invented(t))
        self.assertGreater(plain, 60)

    def test_told_cases_of_copies(self):
        for n, r, w, m, p in COUNTS:
            setting = Setting(n, r, w, m, p)
            told = verdict(setting)
            if told == ("plain",):
                continue
            _, part, (reads, writes) = told
            self.assertEqual((part, len(reads), len(writes)), ("copies", r, w))
            wild = unruly_case(n, r, w, m, p)
            live = Live(setting)
            live.edit(writes, ("in", (5, "add", "a", 1)))
            seen = []
            for copy in reads:
                if live.records(copy) and p > 1:
                    live.move(copy, 5, 1, 1)
                walk = live.walk(copy, 0, "free" if copy in wild else "left")
                told = live.step(walk)
                if told is None and live.records(copy):
                    live.move(copy, 5, 1, 0)
                while told is None:
                    told = live.step(walk)
                seen += told
            self.assertEqual((deeds_of(seen), live.ask(0, "a", 9)), ([], "no row"))
            self.assertEqual(columns_at(live.past(), 9), [("a", 1)])

    def test_told_cases_of_plans_and_of_reading(self):
        rng = random.Random(258)
        seen = set()
        for _ in range(150):
            condition = some_condition(rng, 5)
            plan = condition if condition[0] not in ("all", "any") else (condition[0], condition[1][::-1])
            told = verdict(Setting(condition=condition, plan=plan, reading="each"))
            seen.add(told[:2])
            if told[1:2] == ("plan",):
                past = past_of(condition, told[2])
                self.assertNotEqual(run(condition, past, 0, 99), run(plan, past, 0, 99))
                self.assertEqual(unlike(condition, plan), told[2])
            elif told[1:2] == ("reading",):
                one, other, count = told[2]
                self.assertEqual(self.asked_in_parts(plan, one, other, count), mixed_outcome(plan, one, other, count))
                sides = {run(plan, past_of(plan, picture), 0, 99) for picture in (one, other)}
                self.assertNotIn(self.asked_in_parts(plan, one, other, count), sides)
        self.assertEqual(seen, {("plain",), ("bars", "plan"), ("bars", "reading")})

    def asked_in_parts(self, plan, one, other, count):
        """The outcome where a live store is edited from one past to another behind so many tests."""
        first, second = past_of(plan, one), past_of(plan, other)
        live = Live(Setting(1, 1, 1), first)
        answers = [answer for _, answer in asked(plan, live.past(), 0, 999)[:count]]
        for deed in first.deeds():
            live.edit((0,), ("out", deed[0]))
        for deed in second.deeds():
            live.edit((0,), ("in", deed))
        return told_by(plan, lambda test: answers.pop(0) if answers else asked(test, live.past(), 0, 999)[0][1])

    def test_told_cases_of_making(self):
        told = [("f", ("base", ("a",)), ("h", (0, ("new", "n"))))]
        setting = Setting(making="number", rules=Rules(told))
        self.assertEqual(verdict(setting), ("bars", "making", ("f", "n")))
        live = Live(setting, Past([(1, "add", "a", 3), (2, "put", 0, ()), (3, "put", 1, (("a", 4),))]))
        shown_rows = [numbered(setting.rules, live.past(), 3, keys) for keys in ([0, 1], [1, 0])]
        self.assertNotEqual(*map(set, shown_rows))


def told_by(condition, ask_test):
    """The outcome of a condition whose tests are asked so, from the left."""
    if condition[0] == "not":
        return {"yes": "no", "no": "yes", "fault": "fault"}[told_by(condition[1], ask_test)]
    if condition[0] not in ("all", "any"):
        return ask_test(condition)
    last = "no" if condition[0] == "all" else "yes"
    for part in condition[1]:
        told = told_by(part, ask_test)
        if told in ("fault", last):
            return told
    return "yes" if last == "no" else "no"


class TestsOfPlans(unittest.TestCase):
    """(e) and (f): plans, and questions that are parted."""

    def test_guarded_plans_in_a_live_store(self):
        rng = random.Random(259)
        for _ in range(80):
            condition = some_guarded(rng)
            tests = flat(condition)
            costs, shares = some_costs(rng, len(tests))
            plan, least = cheapest(condition, costs, shares)
            self.assertTrue(is_guarded(plan))
            over, least_over = cheapest_over(condition, costs, shares, 3)
            self.assertTrue(is_guarded(over))
            places = [tests.index(test) for test in flat(plan)]
            if len(set(tests)) == len(tests):
                self.assertEqual(mean(plan, [costs[at] for at in places], [shares[at] for at in places]), least)
                places = [tests.index(test) for test in flat(over)]
                told = mean_over(over, [costs[at] for at in places], [shares[at] for at in places], 3)
                self.assertEqual(told, least_over)
            unlike_ones = list(dict.fromkeys(tests))
            costs, shares = some_costs(rng, len(unlike_ones))
            choosing = least_plan(condition, costs, shares)
            self.assertTrue(is_plan(condition, choosing))
            self.assertEqual(plan_mean(condition, costs, shares, choosing), least_mean(condition, costs, shares))
            live = Live(Setting(2, 1, 2, 0, 2, condition=condition, plan=plan), Past(some_deeds(rng, 5, 20, 2)))
            lead(rng, live, [(0, 1)], 6)
            for key, t in product((0, 1), (3, 10, 999)):
                meant = meaning(condition, live.past(), key, t)
                self.assertEqual(live.run(key, t), meant)
                self.assertEqual(chosen(condition, choosing, live.past(), key, t)[0], meant)
            keys = [key for key in range(3) if live.run(key, 999) == "yes"]
            self.assertEqual(run_over(over, live.past(), 3, 999), ("keys", keys))

    def test_parted_just_if_edits_between_tests_can_mislead(self):
        rng = random.Random(260)
        seen = {False: 0, True: 0}
        for _ in range(120):
            condition = some_condition(rng, 4)
            told = parted(condition)
            seen[told is not None] += 1
            if told is not None:
                _, first, second, count = parted_paper(condition)
                live = Live(Setting(1, 1, 1, condition=condition), Past(first))
                sides = [live.run(0, 999)]
                answers = [answer for _, answer in asked(condition, live.past(), 0, 999)[:count]]
                for deed in first:
                    live.edit((0,), ("out", deed[0]))
                for deed in second:
                    live.edit((0,), ("in", deed))
                sides.append(live.run(0, 999))
                misled = told_by(condition, lambda test: answers.pop(0) if answers
                                 else asked(test, live.past(), 0, 999)[0][1])
                self.assertNotIn(misled, sides)
                continue
            for _ in range(40):
                live = Live(Setting(1, 1, 1, condition=condition), Past(some_deeds(rng, 5, 12, 1)))
                sides, answers = [live.run(0, 999)], [answer for _, answer in asked(condition, live.past(), 0, 999)]
                answers = answers[:rng.randrange(len(answers) + 1)]
                lead(rng, live, [(0,)], rng.randrange(6))
                sides.append(live.run(0, 999))
                self.assertIn(told_by(condition, lambda test: answers.pop(0) if answers
                                      else asked(test, live.past(), 0, 999)[0][1]), sides)
        self.assertGreater(min(seen.values()), 20)


def flat(condition):
    """The tests of a condition, as they stand."""
    if condition[0] == "not":
        return flat(condition[1])
    if condition[0] not in ("all", "any"):
        return [condition]
    return [test for part in condition[1] for test in flat(part)]


class TestsOfRules(unittest.TestCase):
    """(g): rules that end, the greatest number of rows, and what is surely invented."""

    def test_rows_brought_through_edits(self):
        rng = random.Random(261)
        for _ in range(40):
            rules = Rules(some_ending(rng, names=NAMES))
            live = Live(Setting(1, 1, 1, rules=rules), Past(some_deeds(rng, 6, 20, 2)))
            shown_rows = live.invented(999)
            for _ in range(8):
                past, change = live.past(), some_change(rng, live.past().deeds())
                gone, come = brought(rules, past, change, 999)
                live.edit((0,), change)
                now = live.invented(999)
                self.assertEqual(gone, [row for row in shown_rows if row not in now])
                self.assertEqual(come, [row for row in now if row not in shown_rows])
                live.undo((0,))
                self.assertEqual(live.invented(999), shown_rows)
                live.redo((0,))
                shown_rows = now

    def test_edits_of_a_store_never_pass_what_is_told(self):
        rng = random.Random(262)
        endless = 0
        for _ in range(150):
            told = some_rules(rng, names=NAMES[:3])
            rules = Rules(told)
            live = Live(Setting(1, 1, 1), Past([(at + 1, "add", name, at) for at, name in enumerate(NAMES[:3])]))
            for key in range(3):
                live.edit((0,), ("in", (10 + key, "put", key, tuple((name, rng.randrange(9)) for name in NAMES[:3]))))
            if not ends(rules):
                endless += 1
                self.assertRaises(TooMany, invented, rules, live.past(), 999)
                continue
            many = len(invented(rules, live.past(), 999))
            self.assertLessEqual(many, most_rows(rules, 3))
            present = NAMES[:3]
            found = inner(rules, present)
            self.assertEqual([row for row in invented(rules, live.past(), 999) if row in found], found)
            for table, width in rules.tables().items():
                question = (table, tuple(rng.choice((("mark", 1), ("mark", 2), 4)) for _ in range(width)))
                known = {"a": 4}
                if surely(rules, present, known, question):
                    live.edit((0,), ("in", (20 + len(live.edits()), "put", 5, (("a", 4), ("b", rng.randrange(9))))))
                    rows = [row for row, keys in support(rules, live.past(), 999).items() if 5 in keys]
                    self.assertTrue(any(does_fit(row, question) for row in rows))
        self.assertGreater(endless, 10)


def does_fit(row, question):
    """Whether a row has the asked values, and alike ones at alike marks."""
    marks = {}
    pairs = list(zip(row[1], question[1]))
    return row[0] == question[0] and all(marks.setdefault(asked_one, own) == own if isinstance(asked_one, tuple)
                                         else own == asked_one for own, asked_one in pairs)


class TestsOfWishes(unittest.TestCase):
    """(h): wishes that are made as edits, and undone."""

    def test_wishes_made_and_undone(self):
        rng = random.Random(263)
        seen = set()
        for _ in range(200):
            live = Live(Setting(2, 1, 2, 0, 2), Past(some_deeds(rng, rng.randrange(9), 14, 2)))
            past, text = live.past(), write(live)
            wish = (rng.randrange(2), rng.choice(NAMES[:3]), rng.choice((5, 14, 999)), rng.randrange(3))
            if live.ask(*wish[:3]) in range(100) and rng.random() < 0.5:
                wish = wish[:3] + (live.ask(*wish[:3]),)
            told = least_changes(past, wish)
            seen.add(None if told is None else len(told))
            if told is None:
                continue
            self.assertTrue(does(past, wish, told))
            with live.trial() as own:
                for change in told:
                    own.edit((0, 1), change)
                self.assertEqual(own.ask(*wish[:3]), wish[3])
            self.assertEqual((write(live), len(live)), (text, 0))
            for change in told:
                self.assertTrue(is_change(live.past(), change))
                live.edit((0,), change)
            self.assertTrue(is_so(live.past(), wish))
            for _ in told:
                live.undo((0, 1))
            self.assertTrue(live.past() == past)
            self.assertIs(is_so(live.past(), wish), told == [])
            for _ in told:
                live.redo((1,))
            self.assertEqual(live.ask(*wish[:3]), wish[3])
            for _ in range(3 * len(told)):
                live.back()
            self.assertEqual((write(live), len(live)), (text, 0))
        self.assertEqual(seen, {None, 0, 1, 2})


class TestsOfTexts(unittest.TestCase):
    """(j): texts, trials and deeds that are taken back."""

    def answers(self, live):
        """All that a store tells, but for what can be taken back, and the numbers of walks to come."""
        many = live.setting().many
        told = [live.past().deeds(), live.edits(), live.line(), live.walks(), verdict(live.setting())]
        told += [(live.records(on), [live.page_of(on, moment, number) for moment, number, _ in live.records(on)])
                 for on in range(many)]
        told += [(live.seen(lot), live.lacks(lot)) for lot in lots_of(many)]
        told += [live.run(key, t) for key in (0, 1) for t in (0, 7, 999)]
        told += [live.ask(key, name, t) for key in (0, 1) for name in NAMES[:2] for t in (0, 7, 999)]
        return told + [live.invented(999), None if live.walks() else write(live)]

    def some_live(self, rng):
        condition, rules = some_condition(rng), Rules(some_ending(rng, names=NAMES))
        reading, making = rng.choice(("one", "each")), rng.choice(("content", "number"))
        setting = Setting(2, 2, 2, rng.choice((0, 1)), 3, condition=condition, rules=rules, reading=reading,
                          making=making)
        live = Live(setting, Past(some_deeds(rng, 4, 15, 2)))
        lead(rng, live, lots_of(2), rng.randrange(12))
        return live

    def test_texts_tell_all_alike(self):
        rng = random.Random(264)
        for _ in range(40):
            live = self.some_live(rng)
            other = read(write(live))
            self.assertTrue(other == live)
            self.assertEqual(self.answers(other), self.answers(live))
            self.assertIs(is_plain(other.setting()), is_plain(live.setting()))
            console = Console()
            for row in write(live).split("\n"):
                console.run("+" + row)
            self.assertEqual(console.run("begin"), "ok")
            self.assertEqual(console.run("rows 999"), str(len(live.invented(999))))
            self.assertEqual(console.run("show"), str(len(write(live).split("\n"))))

    def test_trials_and_backs_leave_all_as_it_was(self):
        rng = random.Random(265)
        for _ in range(40):
            live = self.some_live(rng)
            if rng.random() < 0.5:
                live.walk(0, 1, "left")
            many, told, twin = len(live), self.answers(live), live.twin()

            def guest(own):
                lead(rng, own, lots_of(2), 5)
                own.walk(1, 0, "free")

            live.trying(guest)
            self.assertEqual((self.answers(live), len(live)), (told, many))
            self.assertTrue(live == twin)
            live.trying(guest, kept=True)
            self.assertEqual(len(live), many + 1)
            lead(rng, live, lots_of(2), 4)
            while len(live) > many:
                live.back()
            self.assertEqual(self.answers(live), told)
            self.assertTrue(live == twin)
            live.again()
            self.assertFalse(self.answers(live) == told)


if __name__ == "__main__":
    unittest.main()
