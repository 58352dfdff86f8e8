"""Each function and method is called by position, and by the names of its arguments in another order."""

import importlib
import unittest

from plainstore.choosing import least_plan
from plainstore.console import Console
from plainstore.copies import Copies
from plainstore.errors import StoreError
from plainstore.live import Live
from plainstore.pasts import Past
from plainstore.rules import Rules
from plainstore.settings import Setting
from tests.test_interface import FUNCTIONS

BOTH = ("all", (("row",), ("has", "a"), ("eq", "a", 7)))
HALF = ((1, 2), (1, 2), (1, 2))
PAST = Past([(1, "add", "a", 5), (2, "put", 0, (("a", 7),)), (4, "rename", "a", "b")])
PLAN = least_plan(BOTH, ((1, 1), (2, 1), (3, 1)), HALF)
RULES = Rules([("f", ("base", ("a",)), ("h", (0, ("new", "n")))), ("g", ("h", 2), ("k", (1,)))])


def edited():
    copies = Copies(3, PAST)
    copies.edit((0, 1), ("in", (9, "drop", "b")))
    copies.edit((2,), ("out", 9))
    return copies


def led():
    live = Live(Setting(3, 2, 2, 0, 2, condition=BOTH, rules=RULES), PAST)
    live.edit((0, 1), ("in", (9, "drop", "b")))
    live.walk(0, 0, "free")
    return live


# What parameters of these names are given; a module may have others.
SAMPLES = {
    "past": PAST, "key": 0, "name": "a", "t": 3, "change": ("out", 2), "one": ("out", 2),
    "other": ("in", (3, "drop", "q")), "deed": (5, "put", 1, (("b", 1), ("a", 2))),
    "value": (5, "put", 1, (("b", 1), ("a", 2))), "votes": (1, 1, 1), "need": 2, "unruly": 0, "lot": (0, 1),
    "ups": [(1, 2), (1, 3), (3, 4)], "count": 3, "up": (1, 2), "share": (1, 3), "number": 2, "moment": 9, "pages": 3,
    "rule": "left", "begin": 1, "page": 0, "begins": [0, 1], "places": [0, 2], "reads": 2, "writes": 2,
    "condition": BOTH, "costs": ((1, 1), (2, 1), (3, 1)), "shares": HALF, "rules": RULES, "keys": [0],
    "values": {"a": 3}, "present": ["a"], "known": {"a": 3}, "question": ("h", (3, ("mark", 1))),
    "wish": (0, "a", 3, 8), "changes": [("out", 2)], "setting": Setting(3, 1, 2), "word": "edit", "most": 50,
}
OTHERS = {
    "votes": {"paper": ("missed", (0,), (1, 2))},
    "deciders": {"value": PAST.deeds()[:2], "paper": ("answer", 0, "a", 3, PAST.deeds()[:2], 7)},
    "walks": {"moves": [(0, 2)], "value": ("none", [])},
    "conditions": {"value": ("all", BOTH[1][::-1])},
    "pictures": {"cuts": (3, 7), "region": 2, "value": 5, "picture": (True, (1,)), "word": "yes", "one": BOTH,
                 "other": ("row",)},
    "choosing": {"knowing": (True, None, None), "plan": PLAN, "value": PLAN},
    "parted": {"one": (True, (1,)), "other": (False, (True,)), "count": 1,
               "paper": ("parted", PAST.deeds()[:2], PAST.deeds()[:1], 1)},
    "rules": {"value": ("f", "n", (3,))},
    "ends": {"paper": ("ends", [(("h", 0), 0), (("h", 1), 1), (("k", 0), 2)])},
    "support": {"paper": ("sure", ["a"], {"a": 3}, ("h", (3, ("mark", 1))), "f", [])},
    "texts": {"text": "setting 3 1 2 0 1 one content"},
}
LOTS = {"are_safe": ([(0, 1)], [(1, 2)], (1,)), "least_bars": ([(0, 1)], [(1, 2)], (1,)),
        "bars_by_count": (3, 2, 2, (0,))}
# Attributes, deeds and questions of the objects: the name, and the arguments by their names, in order.
METHODS = {
    lambda: PAST: [("with_deed", {"deed": (7, "strike", 0)}), ("without", {"moment": 2})],
    edited: [
        ("edit", {"lot": (0, 2), "change": ("out", 1)}), ("records", {"copy": 1}), ("seen", {"lot": (2,)}),
        ("lacks", {"lot": (0,)}), ("undo", {"lot": (0,)}),
    ],
    lambda: RULES: [("border", {"name": "f"})],
    led: [
        ("edit", {"lot": (0, 2), "change": ("out", 1)}), ("records", {"copy": 1}), ("seen", {"lot": (2,)}),
        ("lacks", {"lot": (2,)}), ("undo", {"lot": (0,)}), ("page_of", {"copy": 0, "moment": 9, "number": 1}),
        ("ask", {"key": 0, "name": "b", "t": 5}), ("run", {"key": 0, "t": 3}), ("invented", {"t": 3}),
        ("move", {"copy": 0, "moment": 9, "number": 1, "page": 1}), ("walk", {"copy": 1, "page": 1, "rule": "left"}),
        ("step", {"walk": 0}), ("drop", {"walk": 0}),
    ],
    Console: [("run", {"line": "+x"})],
}


def rows_of_interface():
    """The pairs (module, name, names of parameters, those of parameters behind a star)."""
    for module, text in FUNCTIONS.items():
        for row in text.replace("\n", ";").split(";"):
            if row.strip():
                name, _, rest = row.strip().rstrip(")").partition("(")
                plain, _, starred = rest.partition("*, ")
                names = [part.split("=")[0].strip() for part in plain.split(",") if part.strip()]
                yield module, name, names, [part.split("=")[0].strip() for part in starred.split(",") if part]


class Calls(unittest.TestCase):
    def told(self, call, *args, **more):
        try:
            return call(*args, **more)
        except StoreError as error:
            return (error.__class__, error.told)

    def test_functions(self):
        many = 0
        for module, name, names, starred in rows_of_interface():
            samples = {**SAMPLES, **OTHERS.get(module, {}), "copies": edited(), "live": Live(Setting(3, 1, 2), PAST)}
            given = {word: samples[word] for word in names}
            if name in LOTS:
                given = dict(zip(names, LOTS[name]))
            more = {word: samples[word] for word in starred}
            function = getattr(importlib.import_module("plainstore." + module), name)
            by_position = self.told(function, *given.values(), **more)
            by_name = self.told(function, **dict(reversed([*given.items(), *more.items()])))
            if not isinstance(by_position, Live):
                self.assertEqual((by_position.__class__, by_position), (by_name.__class__, by_name), name)
            self.assertTrue(by_position == by_name, name)
            self.assertEqual(self.told(function, *given.values(), **more), by_position, name)
            many += 1
        self.assertEqual(many, 127)

    def test_methods(self):
        for make, calls in METHODS.items():
            for name, given in calls:
                one, other = make(), make()
                by_position = self.told(getattr(one, name), *given.values())
                by_name = self.told(getattr(other, name), **dict(reversed(list(given.items()))))
                self.assertTrue(by_position == by_name, name)
                if not isinstance(one, Console):
                    self.assertTrue(one == other, name)

    def test_two_given_orders_are_not_alike(self):
        live = led()
        self.assertEqual(live.trying(kept=True, guest=lambda own: own.walk(1, 0, "left")), 1)
        self.assertEqual((live.walks()[1], len(live)), ((1, 1, 0, "left", 0), 3))
        self.assertTrue(Live(past=PAST, setting=Setting()) == Live(Setting(), PAST))
        self.assertTrue(Copies(past=PAST, count=2) == Copies(2, PAST))
        self.assertTrue(Past(deeds=PAST.deeds()) == PAST)
        self.assertTrue(Rules(rules=RULES.all_rules()) == RULES)


if __name__ == "__main__":
    unittest.main()
