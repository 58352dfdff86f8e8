"""Drafts: stores as the rows of a text have them so far."""

from plainstore.conditions import is_arrangement, is_condition
from plainstore.copies import Copies
from plainstore.deeds import is_deed
from plainstore.ends import ends
from plainstore.errors import NoRules, NoSetting, StoreError, TooMany
from plainstore.live import Live
from plainstore.pasts import MOST_DEEDS, Past
from plainstore.phrases import read_condition, read_rule
from plainstore.rules import Rules
from plainstore.settings import Setting
from plainstore.words import read_change, read_count, read_deed, read_lot, read_places

SETTING_PLACES = ("count", "count", "count", "count", "count", "rule", "rule")
PAGE_PLACES = ("count", "count", "count", "count")


class Draft:
    """What the rows of a text have told so far."""

    def __init__(self):
        self.counted = None
        self.question = None
        self.order = None
        self.ruled = Rules()
        self.early = {}
        self.copies = None
        self.acts = []
        self.places = {}

    def take(self, row):
        """Take the next row, and tell whether it can stand; one that cannot changes nothing."""
        word, *words = row.split(" ")
        if word not in TAKERS or (word == "setting") != (self.counted is None):
            return False
        taker = TAKERS[word]
        return taker(self, words)

    def store(self):
        """The live store of the rows, with nothing to be taken back."""
        counted = self.counted
        question = ("row",) if self.question is None else self.question
        setting = Setting(
            counted.many, counted.reads, counted.writes, counted.unruly, counted.pages, condition=question,
            plan=self.order, reading=counted.reading, making=counted.making, rules=self.ruled,
        )
        live = Live(setting, self.past())
        for kind, lot, change in self.acts:
            _act(live, kind, lot, change)
        for copy, moment, number in list(self.places):
            page = self.places[(copy, moment, number)]
            if page > 0:
                live.move(copy, moment, number, page)
        live.forget()
        return live

    def past(self):
        """The first past."""
        return Past(list(self.early.values()))

    def written(self):
        """The copies behind the edits so far."""
        return Copies(self.counted.many, self.past()) if self.copies is None else self.copies


def _act(copies, kind, lot, change):
    """Edit, undo or redo; a live store does so, too."""
    if kind == "edit":
        copies.edit(lot, change)
    elif kind == "undo":
        copies.undo(lot)
    else:
        copies.redo(lot)


def _take_setting(draft, words):
    told = read_places(SETTING_PLACES, words)
    if told is None:
        return False
    count, reads, writes, unruly, pages, reading, making = told
    try:
        counted = Setting(count, reads, writes, unruly, pages, reading=reading, making=making)
    except NoSetting:
        return False
    draft.counted = counted
    return True


def _take_condition(draft, words):
    condition = read_condition(words)
    if draft.question is not None or not is_condition(condition):
        return False
    draft.question = condition
    return True


def _take_plan(draft, words):
    plan = read_condition(words)
    if draft.question is None or draft.order is not None or not is_arrangement(draft.question, plan):
        return False
    draft.order = plan
    return True


def _take_rule(draft, words):
    try:
        ruled = Rules(draft.ruled.all_rules() + [read_rule(words)])
    except NoRules:
        return False
    if not ends(ruled):
        return False
    draft.ruled = ruled
    return True


def _take_deed(draft, words):
    moment = read_count(words[0]) if words else None
    deed = None if moment is None else read_deed(moment, words[1:])
    if not is_deed(deed) or moment in draft.early:
        return False
    if draft.copies is not None or len(draft.early) == MOST_DEEDS:
        return False
    draft.early[moment] = deed
    return True


def _take_edit(draft, words):
    lot = read_lot(words[0]) if words else None
    return _take_act(draft, "edit", lot, read_change(words[1:]))


def _take_undo(draft, words):
    return len(words) == 1 and _take_act(draft, "undo", read_lot(words[0]), None)


def _take_redo(draft, words):
    return len(words) == 1 and _take_act(draft, "redo", read_lot(words[0]), None)


def _take_act(draft, kind, lot, change):
    copies = draft.written()
    try:
        _act(copies, kind, lot, change)
    except (StoreError, TooMany):
        return False
    draft.copies = copies
    draft.acts.append((kind, lot, change))
    return True


def _take_page(draft, words):
    told = read_places(PAGE_PLACES, words)
    if told is None:
        return False
    copy, moment, number, page = told
    if copy >= draft.counted.many or page >= draft.counted.pages or (copy, moment, number) in draft.places:
        return False
    if (moment, number) not in [(own, other) for own, other, _ in draft.written().records(copy)]:
        return False
    draft.places[(copy, moment, number)] = page
    return True


TAKERS = {
    "setting": _take_setting,
    "condition": _take_condition,
    "plan": _take_plan,
    "rule": _take_rule,
    "deed": _take_deed,
    "edit": _take_edit,
    "undo": _take_undo,
    "redo": _take_redo,
    "page": _take_page,
}
