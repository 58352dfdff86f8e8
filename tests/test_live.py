import copy
import random
import unittest

from plainstore import errors
from plainstore.conditions import run
from plainstore.errors import (
    NoChange, NoKey, NoLot, NoMoment, NoMove, NoName, NoPage, NoPast, NoSetting, NothingBack, NoWalk, NoWay, TooMany,
)
from plainstore.live import Live
from plainstore.pasts import Past
from plainstore.plain import ask
from plainstore.rules import Rules, invented
from plainstore.settings import Setting
from tests.inventions import some_ending
from tests.kinds import odd_values, raised
from tests.living import PlainLive, Refused, some_act
from tests.plainly import lots_of
from tests.reckon import NAMES, some_deeds
from tests.somes import some_condition

PUT = (5, "put", 1, (("b", 2), ("a", 1)))
PUT_IN_ORDER = (5, "put", 1, (("a", 1), ("b", 2)))


def some_pair(rng, condition=("row",), rules=None):
    """A live store and its model."""
    count, pages = rng.choice((1, 2, 2, 3)), rng.choice((1, 2, 3, 3, 6))
    deeds = some_deeds(rng, rng.choice((0, 1, 3)), 8, 2)
    setting = Setting(count, count, count, 0, pages, condition=condition, rules=rules)
    return Live(setting, Past(deeds)), PlainLive(count, pages, deeds)


def do(live, act):
    word, *args = act
    return getattr(live, word)(*args)


def do_both(case, live, model, act):
    """Do a deed in both, and check that both tell the same, or refuse it alike."""
    try:
        plain = model.do(*act)
    except Refused as refused:
        raised(case, getattr(errors, refused.error), refused.told, do, live, act)
        return False
    told = do(live, act)
    case.assertEqual((told.__class__, told), (plain.__class__, plain))
    return True


def check(case, live, model, rng=None):
    """Check that the store is as the model."""
    case.assertEqual(live.past().deeds(), model.past())
    case.assertEqual((live.edits(), live.line(), live.walks()), (model.state.edits, model.state.line, model.walks()))
    case.assertEqual(len(live), len(model.backs))
    for on in range(model.count):
        case.assertEqual(live.records(on), model.records(on))
        for moment, number, _ in model.records(on):
            case.assertEqual(live.page_of(on, moment, number), model.page_of(on, moment, number))
    for lot in lots_of(model.count) if rng is None else [rng.choice(lots_of(model.count))]:
        case.assertEqual((live.seen(lot), live.lacks(lot)), (model.seen(lot), model.lacks(lot)))


class Deeds(unittest.TestCase):
    def test_beside_a_plain_model(self):
        rng = random.Random(220)
        done = {}
        seen = {False: 0, True: 0}
        for _ in range(70):
            live, model = some_pair(rng)
            for _ in range(rng.choice((10, 40, 60))):
                choice = rng.random()
                if choice < 0.12 and model.backs:
                    model.back()
                    self.assertIs(live.back(), None)
                elif choice < 0.2 and model.agains:
                    model.again()
                    self.assertIs(live.again(), None)
                else:
                    act = some_act(rng, model)
                    kind = (act[0], do_both(self, live, model, act))
                    done[kind] = done.get(kind, 0) + 1
                    if act[0] == "step" and act[1] not in model.state.walks and kind[1]:
                        seen[len(live.walks()) > 0] += 1
                check(self, live, model, rng)
            check(self, live, model)
        words = ("edit", "undo", "redo", "move", "walk", "step", "drop")
        self.assertGreater(min(done[(word, True)] for word in words), 25)
        refused = [done.get((word, False), 0) for word in ("edit", "undo", "redo", "move", "step", "drop")]
        self.assertGreater(min(refused), 5)
        self.assertGreater(min(seen.values()), 10)

    def test_walks_of_each_rule(self):
        rng = random.Random(221)
        missed = {"free": 0, "barred": 0, "left": 0}
        for _ in range(300):
            live, model = some_pair(rng)
            for _ in range(4):
                do_both(self, live, model, some_act(rng, model))
            for rule in ("free", "left", "barred"):
                number = live.walk(0, 0, rule)
                self.assertEqual(model.do("walk", 0, 0, rule), number)
                lying, told = [], None
                while told is None:
                    told = live.step(number)
                    self.assertEqual(told, model.do("step", number))
                    lying = lying or [record[:2] for record in model.records(0)]
                    for _ in range(rng.randrange(4)):
                        on = [record[:2] for record in model.records(0)]
                        if on and told is None:
                            do_both(self, live, model, ("move", 0, *rng.choice(on), rng.randrange(model.pages)))
                missed[rule] += len([record for record in lying if record not in [seen[:2] for seen in told]])
        self.assertEqual((missed["barred"], missed["left"]), (0, 0))
        self.assertGreater(missed["free"], 10)

    def test_told(self):
        live = Live(Setting(2, 1, 1, 0, 2))
        self.assertIs(live.edit((0,), ("in", PUT)), None)
        self.assertEqual((live.edits(), live.line()), ([((0,), ("in", PUT_IN_ORDER))], ((1,), ())))
        self.assertEqual((live.records(0), live.records(copy=1)), ([(5, 1, PUT_IN_ORDER)], []))
        self.assertEqual((live.seen((1,)), live.lacks(lot=(1,)), live.seen(lot=(0, 1))), ([], [5], [PUT_IN_ORDER]))
        self.assertIs(live.move(0, 5, 1, 1), None)
        self.assertEqual((live.page_of(0, 5, 1), live.walk(0, 1, "barred"), live.walk(rule="left", page=0, copy=1)),
                         (1, 0, 1))
        self.assertEqual(live.walks(), [(0, 0, 1, "barred", 0), (1, 1, 0, "left", 0)])
        self.assertIs(live.move(page=0, number=1, moment=5, copy=0), None)
        self.assertIs(live.step(walk=0), None)
        raised(self, NoMove, 1, live.move, 0, 5, 1, 1)
        self.assertEqual(live.page_of(number=1, moment=5, copy=0), 0)
        self.assertEqual(live.walks(), [(0, 0, 1, "barred", 1), (1, 1, 0, "left", 0)])
        self.assertIs(live.drop(walk=1), None)
        self.assertEqual((live.step(0), live.walks(), len(live)), ([(5, 1, PUT_IN_ORDER)], [], 8))
        self.assertIs(live.undo(lot=(0, 1)), None)
        self.assertEqual((live.line(), live.past().deeds(), live.records(1)), (((), (1,)), [], [(5, 2, None)]))
        self.assertIs(live.redo(()), None)
        self.assertEqual((live.line(), live.lacks((0, 1))), (((1,), ()), [5]))

    def test_with_one_page_a_walk_ends_at_its_first_step(self):
        live = Live(Setting(1, 1, 1), Past([PUT]))
        self.assertEqual(live.step(live.walk(0, 0, "free")), [(5, 0, PUT_IN_ORDER)])
        self.assertEqual((live.walks(), live.walk(0, 0, "left")), ([], 1))

    def test_what_comes_while_a_walk_goes_on(self):
        for rule, told in (("free", []), ("left", [1])):
            live = Live(Setting(1, 1, 1, 0, 3))
            walk = live.walk(0, 1, rule)
            live.step(walk)
            live.edit((0,), ("in", PUT))
            for page in (2, 0, 1):
                live.move(0, 5, 1, page)
            live.step(walk)
            self.assertEqual([number for _, number, _ in live.step(walk)], told)
        live = Live(Setting(1, 1, 1, 0, 3))
        walk = live.walk(0, 0, "barred")
        live.step(walk)
        live.edit((0,), ("in", PUT))
        live.step(walk)
        self.assertEqual(live.step(walk), [])

    def test_where_records_lay_ahead_of_a_walk_does_not_count(self):
        live = Live(Setting(1, 1, 1, 0, 3), Past([PUT]))
        live.move(0, 5, 0, 1)
        walk = live.walk(0, 0, "left")
        live.move(0, 5, 0, 2)
        live.step(walk)
        live.move(0, 5, 0, 0)
        other = live.walk(0, 1, "left")
        live.step(other)
        self.assertEqual(live.walks()[0][-1], 1)
        live.step(walk)
        self.assertEqual(live.step(walk), [(5, 0, PUT_IN_ORDER)])
        live.step(other)
        self.assertEqual(live.step(other), [(5, 0, PUT_IN_ORDER)])

    def test_sixty_edits_and_sixty_deeds(self):
        sixty = Past([(moment, "strike", 1) for moment in range(1, 61)])
        live = Live(Setting(1, 1, 1), sixty)
        raised(self, TooMany, 60, live.edit, (0,), ("in", (99, "strike", 1)))
        live.edit((0,), ("out", 1))
        for _ in range(29):
            live.undo((0,))
            live.redo(())
        live.undo((0,))
        raised(self, TooMany, 60, live.redo, (0,))
        raised(self, TooMany, 60, live.edit, (0,), ("out", 2))
        self.assertEqual((len(live), len(live.edits()), live.line()), (60, 60, ((), (1,))))
        live.back()
        raised(self, NothingBack, "redo", live.redo, (0,))
        live.undo(())
        raised(self, TooMany, 60, live.edit, (0,), ("out", 2))

    def test_answers_are_those_of_the_past(self):
        rng = random.Random(222)
        for _ in range(60):
            condition, rules = some_condition(rng), Rules(some_ending(rng, names=NAMES))
            live, model = some_pair(rng, condition, rules)
            for _ in range(12):
                do_both(self, live, model, some_act(rng, model))
            past = Past(model.past())
            for t in (0, 4, 999):
                for key in (0, 1):
                    self.assertEqual(live.run(key, t), run(condition, past, key, t))
                    self.assertEqual(live.run(t=t, key=key), run(condition, past, key, t))
                    for name in NAMES[:3]:
                        self.assertEqual(live.ask(key, name, t), ask(past, key, name, t))
                        self.assertEqual(live.ask(t=t, name=name, key=key), ask(past, key, name, t))
                self.assertEqual(live.invented(t), invented(rules, past, t))
                self.assertEqual(live.invented(t=t), invented(rules, past, t))

    def test_the_plan_is_run(self):
        condition = ("all", (("row",), ("has", "a"), ("eq", "a", 1)))
        live = Live(Setting(condition=condition, plan=("all", condition[1][::-1])))
        self.assertEqual((live.run(0, 5), Live(Setting(condition=condition)).run(0, 5)), ("fault", "no"))
        self.assertTrue(live.setting() == Setting(condition=condition, plan=("all", condition[1][::-1])))


class BackAndAgain(unittest.TestCase):
    def test_through_all_states_and_again(self):
        rng = random.Random(223)
        for _ in range(40):
            live, model = some_pair(rng)
            for _ in range(25):
                do_both(self, live, model, some_act(rng, model))
            while model.backs:
                model.back()
                live.back()
                check(self, live, model, rng)
            raised(self, NothingBack, 0, live.back)
            while model.agains and rng.random() < 0.95:
                model.again()
                live.again()
                check(self, live, model, rng)
            number = live.walk(0, 0, "free")
            self.assertEqual(model.do("walk", 0, 0, "free"), number)
            raised(self, NothingBack, 0, live.again)
            check(self, live, model)

    def test_numbers_of_walks_and_what_they_saw_come_back(self):
        live = Live(Setting(1, 1, 1, 0, 2), Past([PUT]))
        self.assertEqual([live.walk(0, 0, "free"), live.walk(0, 1, "free")], [0, 1])
        live.step(0)
        live.move(0, 5, 0, 1)
        self.assertEqual(live.step(0), [(5, 0, PUT_IN_ORDER)])
        live.back()
        self.assertEqual((live.walks()[0], live.step(0)), ((0, 0, 0, "free", 1), [(5, 0, PUT_IN_ORDER)]))
        raised(self, NothingBack, 0, live.again)
        for _ in range(5):
            live.back()
        self.assertEqual((live.walks(), live.page_of(0, 5, 0), len(live)), ([], 0, 0))
        self.assertEqual(live.walk(0, 1, "left"), 0)

    def test_refused_deeds_are_none(self):
        live = Live(Setting(1, 1, 1, 0, 2), Past([PUT]))
        live.walk(0, 0, "barred")
        live.step(0)
        live.back()
        for call in (lambda: live.step(1), lambda: live.move(0, 5, 0, 0), lambda: live.undo((0,)), lambda: live.drop(3),
                     lambda: live.edit((0,), ("out", 6)), lambda: live.walk(0, 2, "free")):
            self.assertRaises(errors.StoreError, call)
        self.assertEqual(len(live), 1)
        live.again()
        self.assertEqual(live.walks(), [(0, 0, 0, "barred", 1)])


class Leaving(Exception):
    pass


class Trials(unittest.TestCase):
    def lead(self, live, model, rng, depth, log):
        """Do some deeds in both, with trials within."""
        for _ in range(rng.randrange(1, 7)):
            choice = rng.random()
            if choice < 0.25 and depth < 3:
                self.try_out(live, model, rng, depth, log)
            elif choice < 0.35 and model.backs:
                model.back()
                live.back()
            elif choice < 0.42 and model.agains:
                model.again()
                live.again()
            else:
                if not model.backs:
                    raised(self, NothingBack, 0, live.back)
                if not model.agains:
                    raised(self, NothingBack, 0, live.again)
                do_both(self, live, model, some_act(rng, model))
            check(self, live, model, rng)

    def try_out(self, live, model, rng, depth, log):
        before, backs, agains = copy.deepcopy(model.state), model.backs, model.agains
        model.backs, model.agains = [], []
        way = rng.choice(("kept", "kept", "not kept", "error", "kept with error", "guest", "kept guest", "guest error"))
        log[way] = log.get(way, 0) + 1

        def guest(own):
            self.assertIs(own, live)
            self.assertEqual(len(own), 0)
            self.lead(live, model, rng, depth + 1, log)
            if "error" in way:
                raise Leaving
            return ["told", way]

        if "guest" in way:
            if "error" in way:
                self.assertRaises(Leaving, live.trying, guest, kept=True)
            else:
                self.assertEqual(live.trying(guest=guest, kept=way.startswith("kept")), ["told", way])
        else:
            trial = live.trial()
            try:
                with trial as own:
                    if way.startswith("kept") and rng.random() < 0.5:
                        self.assertIs(trial.keep(), None)
                    guest(own)
                    if way.startswith("kept"):
                        trial.keep()
            except Leaving:
                self.assertIn("error", way)
        if way in ("kept", "kept guest"):
            model.backs, model.agains = backs + [before], []
        else:
            model.state, model.backs, model.agains = before, backs, agains

    def test_kept_or_not_and_one_within_another(self):
        rng = random.Random(224)
        log = {}
        for _ in range(120):
            live, model = some_pair(rng)
            self.lead(live, model, rng, 0, log)
            self.try_out(live, model, rng, 0, log)
            check(self, live, model)
            while model.backs:
                model.back()
                live.back()
                check(self, live, model, rng)
            while model.agains:
                model.again()
                live.again()
                check(self, live, model, rng)
        self.assertEqual(len(log), 7)
        self.assertGreater(min(log.values()), 20)

    def test_a_kept_trial_is_one_deed(self):
        live = Live(Setting(1, 1, 1))
        live.edit((0,), ("in", PUT))
        live.back()
        with live.trial():
            pass
        live.again()
        live.back()
        trial = live.trial()
        with trial:
            trial.keep()
        self.assertEqual((len(live), live.past().deeds()), (1, []))
        raised(self, NothingBack, 0, live.again)
        live.back()
        self.assertEqual(len(live), 0)
        live.again()
        trial = live.trial()
        live.edit((0,), ("in", PUT))
        trial.keep()
        with trial as own:
            self.assertIs(own, live)
            live.undo((0,))
            live.walk(0, 0, "free")
        self.assertEqual((len(live), live.past().deeds(), live.walks()), (2, [PUT_IN_ORDER], []))

    def test_trying(self):
        live = Live(Setting(1, 1, 1))
        for kept in (False, 1, "yes", None, [1]):
            self.assertEqual(live.trying(lambda own: own.walk(0, 0, "free"), kept=kept), 0)
            self.assertEqual((len(live), live.walks()), (0, []))
        self.assertEqual(live.trying(lambda own: own.walk(0, 0, "free")), 0)
        self.assertEqual(len(live), 0)
        self.assertEqual(live.trying(lambda own: own.walk(0, 0, "free"), kept=True), 0)
        self.assertEqual((len(live), live.walks()), (1, [(0, 0, 0, "free", 0)]))
        self.assertRaises(TypeError, live.trying, len, True)
        raised(self, NoWalk, 7, live.trying, lambda own: own.step(7), kept=True)
        self.assertEqual(len(live), 1)

    def test_an_error_passes_on(self):
        live = Live(Setting(1, 1, 1))
        trial = live.trial()
        with self.assertRaises(KeyboardInterrupt):
            with trial:
                live.edit((0,), ("in", PUT))
                trial.keep()
                raise KeyboardInterrupt
        self.assertEqual((len(live), live.edits()), (0, []))


class Equal(unittest.TestCase):
    def test_by_what_is_listed(self):
        rng = random.Random(225)
        pairs = {False: 0, True: 0}
        for _ in range(60):
            count, pages = rng.choice((1, 2)), rng.choice((2, 3))
            cases = []
            for _ in range(5):
                deeds = rng.choice(([], [PUT_IN_ORDER]))
                live, model = Live(Setting(count, 1, 1, 0, pages), Past(deeds)), PlainLive(count, pages, deeds)
                for _ in range(rng.randrange(6)):
                    word = rng.choice(("edit", "undo", "move", "move", "walk", "step", "step"))
                    act = {
                        "edit": ("edit", (0,), ("out", 5) if model.past() else ("in", PUT_IN_ORDER)),
                        "undo": ("undo", (0,)), "move": ("move", 0, 5, rng.randrange(2), rng.randrange(pages)),
                        "step": ("step", rng.randrange(2)), "walk": ("walk", 0, 0, rng.choice(("left", "free"))),
                    }[word]
                    do_both(self, live, model, act)
                    if model.backs and rng.random() < 0.2:
                        model.back()
                        live.back()
                cases.append((live, model.signature()))
            for one, first in cases:
                for other, second in cases:
                    self.assertIs(one == other, first == second)
                    if one is not other:
                        pairs[first == second] += 1
        self.assertGreater(min(pairs.values()), 40)

    def test_one_thing_unlike(self):
        def led(*acts, count=2, pages=3, first=()):
            live = Live(Setting(count, 1, 1, 0, pages), Past(first))
            for act in acts:
                do(live, act)
            return live

        put, drop = ("edit", (0,), ("in", PUT)), ("in", (6, "drop", "a"))
        self.assertTrue(led(put) == led(put))
        unlike = [led(), led(put), led(("edit", (1,), ("in", PUT))), led(("edit", (0,), drop)), led(first=[PUT]),
                  led(count=1), led(pages=2), led(put, ("undo", (0,))), led(put, ("edit", (0,), ("out", 5))),
                  led(put, ("move", 0, 5, 1, 1)), led(put, ("move", 0, 5, 1, 2)), led(("walk", 0, 0, "free")),
                  led(("walk", 0, 0, "left")), led(("walk", 0, 1, "free")), led(("walk", 1, 0, "free")),
                  led(("walk", 0, 0, "free"), ("step", 0)), led(put, ("walk", 0, 0, "free"), ("step", 0)),
                  led(("walk", 0, 0, "free"), ("step", 0), put), led(("walk", 0, 0, "free"), put),
                  led(("walk", 0, 0, "left"), put), led(put, ("walk", 0, 0, "left")),
                  led(("walk", 0, 0, "free"), ("drop", 0), ("walk", 0, 0, "free"))]
        for at, one in enumerate(unlike):
            for place, other in enumerate(unlike):
                same = at == place or {at, place} == {19, 20}
                self.assertIs(one == other, same, (at, place))
        moved = [put, ("walk", 0, 0, "left"), ("move", 0, 5, 1, 1), ("move", 0, 5, 1, 0)]
        self.assertFalse(led(*moved) == led(*moved[:2]))
        self.assertTrue(led(*[moved[0], ("walk", 0, 0, "free"), *moved[2:]]) == led(put, ("walk", 0, 0, "free")))
        for other in (None, 0, "x", Setting(2, 1, 1, 0, 3), []):
            self.assertFalse(led() == other)

    def test_what_does_not_count(self):
        one, other = [Live(Setting(1, 1, 1)) for _ in range(2)]
        one.walk(0, 0, "free")
        one.step(0)
        self.assertTrue(one == other)
        self.assertEqual((one.walk(0, 0, "free"), other.walk(0, 0, "free")), (1, 0))
        self.assertFalse(one == other)
        one, other = [Live(Setting(1, 1, 1)) for _ in range(2)]
        last = ("edit", (0,), ("in", (9, "drop", "b")))
        for live, words in ((one, "edit undo redo undo"), (other, "edit out undo undo")):
            for word in words.split():
                act = {"edit": ("edit", (0,), ("in", PUT)), "out": ("edit", (0,), ("out", 5))}.get(word, (word, (0,)))
                do(live, act)
            do(live, last)
        self.assertEqual((one.edits(), one.line()), (other.edits(), ((5,), ())))
        self.assertTrue(one == other)

    def test_twins(self):
        rng = random.Random(226)
        for _ in range(30):
            live, model = some_pair(rng)
            for _ in range(15):
                do_both(self, live, model, some_act(rng, model))
            for _ in range(min(3, len(model.backs))):
                model.back()
                live.back()
            twin = live.twin()
            self.assertTrue(twin == live)
            self.assertTrue(twin.setting() == live.setting())
            check(self, twin, model)
            live.walk(0, 0, "left")
            check(self, twin, model)
            self.assertEqual(len(live), len(twin) + 1)
            while model.agains:
                model.again()
                twin.again()
                check(self, twin, model, rng)
            while model.backs:
                model.back()
                twin.back()
                check(self, twin, model, rng)
            self.assertEqual(twin.walk(0, 0, "free"), model.do("walk", 0, 0, "free"))

    def test_what_is_told_may_be_changed(self):
        live = Live(Setting(1, 1, 1, 0, 2), Past([PUT]))
        live.edit((0,), ("out", 5))
        live.walk(0, 0, "left")
        twin = live.twin()
        for told in (live.edits(), live.records(0), live.seen((0,)), live.lacks(()), live.walks(), live.invented(5)):
            told.append(1)
        live.past().deeds().clear()
        self.assertTrue(twin == live)
        live.step(0)
        live.step(0).append(1)
        self.assertEqual(live.records(0), twin.records(0))


class Refusals(unittest.TestCase):
    def setUp(self):
        self.live = Live(Setting(2, 1, 1, 0, 3), Past([PUT]))
        self.live.edit((0,), ("in", (7, "drop", "a")))
        self.live.walk(1, 0, "barred")
        self.live.step(0)
        self.twin = self.live.twin()

    def tearDown(self):
        self.assertTrue(self.live == self.twin)
        self.assertEqual(len(self.live), 3)

    def test_what_a_store_is_made_of(self):
        for value in odd_values():
            raised(self, NoSetting, value, Live, value, 5)
            if value is not None:
                raised(self, NoPast, value, Live, Setting(), value)
                raised(self, NoPast, value, Live, past=value, setting=Setting())
        self.assertTrue(Live(Setting(), None) == Live(past=Past(), setting=Setting()) == Live(Setting()))

    def test_copies_and_lots(self):
        live = self.live
        for value in odd_values() + [2]:
            for call in (live.records, lambda on: live.page_of(on, None, None), lambda on: live.walk(on, None, None),
                         lambda on: live.move(on, None, None, None)):
                raised(self, NoLot, value, call, value)
        for value in odd_values() + [(2,), (1, 0), (0, 0), [0], 0, (True,)]:
            if repr(value) not in ("()", "(1,)"):
                for call in (live.seen, live.lacks, live.undo, live.redo, lambda lot: live.edit(lot, None)):
                    raised(self, NoLot, value, call, value)
        for value in odd_values() + [("in", PUT), ("out", 6)]:
            raised(self, NoChange, value, live.edit, (0,), value)
            raised(self, NoChange, value, live.edit, change=value, lot=())

    def test_records_and_pages(self):
        live = self.live
        for value in odd_values() + [5, 7]:
            raised(self, NoMove, None, live.page_of, 1, value, 1)
            raised(self, NoMove, None, live.page_of, 1, 7, value)
            raised(self, NoMove, None, live.move, 1, value, 1, None)
            if value.__class__ is not int:
                raised(self, NoMove, None, live.page_of, 0, value, 0)
                raised(self, NoMove, None, live.page_of, 0, 7, value)
                raised(self, NoMove, None, live.move, 0, 5, value, None)
        self.assertEqual([live.page_of(0, 7, 1), live.page_of(0, 5, 0), live.page_of(1, 5, 0)], [0, 0, 0])
        for value in odd_values() + [3]:
            raised(self, NoPage, value, live.move, 0, 5, 0, value)
            raised(self, NoPage, value, live.walk, 0, value, None)
        raised(self, NoMove, 0, live.move, 0, 5, 0, 0)
        for value in odd_values() + ["Free", "bar"]:
            raised(self, NoWay, value, live.walk, 0, 2, value)
            raised(self, NoWay, value, live.walk, rule=value, page=2, copy=1)

    def test_walks(self):
        for value in odd_values() + [1]:
            raised(self, NoWalk, value, self.live.step, value)
            raised(self, NoWalk, value, self.live.drop, value)

    def test_what_is_asked(self):
        live = self.live
        for value in odd_values() + [10]:
            raised(self, NoKey, value, live.ask, value, None, None)
            raised(self, NoKey, value, live.run, value, None)
        for value in odd_values() + [1000]:
            raised(self, NoMoment, value, live.ask, 0, "a", value)
            raised(self, NoMoment, value, live.run, 0, value)
            raised(self, NoMoment, value, live.invented, value)
            if repr(value) != "'put'":
                raised(self, NoName, value, live.ask, 0, value, None)

    def test_nothing_back(self):
        raised(self, NothingBack, "redo", self.live.redo, (0,))
        raised(self, NothingBack, "undo", Live(Setting()).undo, ())
        raised(self, NothingBack, 0, self.live.again)
        raised(self, NothingBack, 0, Live(Setting()).back)


if __name__ == "__main__":
    unittest.main()
