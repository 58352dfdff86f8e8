"""Texts told and judged plainly, for the tests: rows by regular expressions, the store by its model."""

import re

from plainstore.conditions import is_arrangement, is_condition
from plainstore.deeds import is_deed
from plainstore.errors import NoRules
from plainstore.rules import Rules
from tests.inventions import is_base, raised_numbers
from tests.living import PlainLive, Refused

COUNT = "(?:0|[1-9][0-9]{0,2})"
NAME = "[a-z]{1,4}"
LOT = f"(?:-|{COUNT}(?:,{COUNT})*)"
DEED = f"(?:put {COUNT}(?: {NAME} {COUNT})*|strike {COUNT}|add {NAME} {COUNT}|drop {NAME}|rename {NAME} {NAME})"
RULE = f"{NAME} (base .*|table .*)"
FORMS = {
    "setting": f"{COUNT} {COUNT} {COUNT} {COUNT} {COUNT} (?:one|each) (?:content|number)",
    "condition": ".*", "plan": ".*", "rule": RULE, "deed": f"{COUNT} {DEED}", "edit": f"{LOT} {COUNT} (?:{DEED}|none)",
    "undo": LOT, "redo": LOT, "page": f"{COUNT} {COUNT} {COUNT} {COUNT}",
}


def told_condition(condition):
    word = condition[0]
    if word == "not":
        return "not " + told_condition(condition[1])
    if word in ("all", "any"):
        return " ".join([f"{word} {len(condition[1])}"] + [told_condition(part) for part in condition[1]])
    return " ".join(map(str, condition))


def told_rule(rule):
    name, (word, what), (table, entries) = rule
    source = f"base {len(what)} " + " ".join(what) if is_base(rule) else f"table {word} {what}"
    return f"rule {name} {source} to {table} " + " ".join(str(e) if isinstance(e, int) else "+" + e[1] for e in entries)


def told_deed(deed):
    if deed[1] == "put":
        return " ".join(["put", str(deed[2])] + [f"{name} {value}" for name, value in deed[3]])
    return " ".join(map(str, deed[1:]))


def told_lot(lot):
    return ",".join(map(str, lot)) or "-"


def told_edit(kind, edit):
    lot, (word, what) = edit
    if kind != "edit":
        return f"{kind} {told_lot(lot)}"
    return f"edit {told_lot(lot)} " + (f"{what} none" if word == "out" else f"{what[0]} {told_deed(what)}")


def told_rows(counts, words, condition, plan, rules, model):
    """The rows of the written text of a store with this model."""
    rows = [" ".join(["setting", *map(str, counts), *words]), "condition " + told_condition(condition)]
    rows += ["plan " + told_condition(plan)] + [told_rule(rule) for rule in rules]
    rows += [f"deed {deed[0]} {told_deed(deed)}" for deed in model.state.pasts[0]]
    rows += [told_edit(kind, edit) for kind, edit in zip(model.state.kinds, model.state.edits)]
    for on in range(model.count):
        for moment, number, _ in model.records(on):
            page = model.page_of(on, moment, number)
            rows += [f"page {on} {moment} {number} {page}"] if page else []
    return rows


def parsed(words):
    """The condition of these words with their places behind it; raises ValueError or IndexError for none."""
    word, *rest = words
    if word == "row":
        return (word,), rest
    if word == "has":
        return (word, rest[0]), rest[1:]
    if word in ("eq", "less"):
        return (word, rest[0], number(rest[1])), rest[2:]
    if word == "not":
        part, rest = parsed(rest)
        return (word, part), rest
    if word not in ("all", "any"):
        raise ValueError(word)
    parts = []
    count, rest = number(rest[0]), rest[1:]
    for _ in range(count):
        part, rest = parsed(rest)
        parts.append(part)
    return (word, tuple(parts)), rest


def number(word):
    if not re.fullmatch(COUNT, word):
        raise ValueError(word)
    return int(word)


def condition_in(words):
    try:
        told, rest = parsed(words)
    except (ValueError, IndexError, RecursionError):
        return None
    return None if rest else told


def rule_in(words):
    """The rule of these words; raises ValueError or IndexError for none."""
    name, word, *rest = words
    if word == "base":
        many = number(rest[0])
        source, rest = ("base", tuple(rest[1:many + 1])), rest[many + 1:]
        if len(source[1]) != many:
            raise ValueError(words)
    else:
        source, rest = (rest[0], number(rest[1])), rest[2:]
    if rest[0] != "to":
        raise ValueError(words)
    entries = tuple(("new", entry[1:]) if entry.startswith("+") else number(entry) for entry in rest[2:])
    return (name, source, (rest[1], entries))


def deed_in(moment, words):
    word, *rest = words
    if word == "put":
        pairs = tuple(zip(rest[1::2], map(int, rest[2::2])))
        return (moment, word, int(rest[0]), pairs)
    return (moment, word, *[int(part) if part.isdigit() else part for part in rest])


def lot_in(word):
    return () if word == "-" else tuple(map(int, word.split(",")))


class Judge:
    """Takes rows while they can stand."""

    def __init__(self):
        self.counts = self.words = self.condition = self.plan = self.model = None
        self.rules, self.deeds, self.pages = [], {}, {}

    def does_stand(self, row):
        word, _, rest = row.partition(" ")
        if word not in FORMS or (word == "setting") != (self.counts is None):
            return False
        if not re.fullmatch(word + " " + FORMS[word], row):
            return False
        return getattr(self, "take_" + word)(rest.split(" "))

    def take_setting(self, words):
        counts = n, r, w, m, p = tuple(map(int, words[:5]))
        if not (1 <= n <= 5 and 1 <= r <= n and 1 <= w <= n and m <= n and 1 <= p <= 6):
            return False
        self.counts, self.words = counts, tuple(words[5:])
        return True

    def take_condition(self, words):
        told = condition_in(words)
        if self.condition is not None or not is_condition(told):
            return False
        self.condition = told
        return True

    def take_plan(self, words):
        told = condition_in(words)
        if self.condition is None or self.plan is not None or not is_arrangement(self.condition, told):
            return False
        self.plan = told
        return True

    def take_rule(self, words):
        try:
            rules = self.rules + [rule_in(words)]
            Rules(rules)
        except (ValueError, IndexError, NoRules):
            return False
        if raised_numbers(rules) is None:
            return False
        self.rules = rules
        return True

    def take_deed(self, words):
        deed = deed_in(int(words[0]), words[1:])
        if self.model is not None or deed[0] in self.deeds or not is_deed(deed) or len(self.deeds) == 60:
            return False
        self.deeds[deed[0]] = deed[:3] + (tuple(sorted(deed[3])),) if deed[1] == "put" else deed
        return True

    def led(self):
        if self.model is not None:
            return self.model
        return PlainLive(self.counts[0], self.counts[4], list(self.deeds.values()))

    def act(self, word, lot, *more):
        model = self.led()
        if any(copy >= self.counts[0] for copy in lot) or list(lot) != sorted(set(lot)):
            return False
        try:
            model.do(word, lot, *more)
        except Refused:
            return False
        self.model = model
        return True

    def take_edit(self, words):
        moment = int(words[1])
        if words[2] == "none":
            return self.act("edit", lot_in(words[0]), ("out", moment))
        deed = deed_in(moment, words[2:])
        if not is_deed(deed):
            return False
        deed = deed[:3] + (tuple(sorted(deed[3])),) if deed[1] == "put" else deed
        return self.act("edit", lot_in(words[0]), ("in", deed))

    def take_undo(self, words):
        return self.act("undo", lot_in(words[0]))

    def take_redo(self, words):
        return self.act("redo", lot_in(words[0]))

    def take_page(self, words):
        on, moment, number_of_edit, page = map(int, words)
        if on >= self.counts[0] or page >= self.counts[4] or (on, moment, number_of_edit) in self.pages:
            return False
        if (moment, number_of_edit) not in self.led().state.lay[on]:
            return False
        self.pages[(on, moment, number_of_edit)] = page
        return True


def first_wrong(text):
    """The number of the first row that cannot stand, None if there is none."""
    judge = Judge()
    for index, row in enumerate(text.split("\n")):
        if not judge.does_stand(row):
            return index
    return None
