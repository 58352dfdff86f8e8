"""Texts: live stores as rows of words, written and read again."""

from plainstore.drafts import Draft
from plainstore.errors import BadText, NoName, NoStore
from plainstore.live import Live
from plainstore.phrases import condition_words, rule_words
from plainstore.words import change_words, deed_words, lot_word

FIRST_WORDS = {
    "setting": ("setting",),
    "condition": ("condition",),
    "plan": ("plan",),
    "rule": ("rule",),
    "deed": ("deed",),
    "edit": ("edit", "undo", "redo"),
    "page": ("page",),
}


def write(live):
    """The text of a live store without walks that go on."""
    return "\n".join([" ".join(row) for row in _rows(live)])


def read(text):
    """A new live store of a text, with nothing to be taken back."""
    if not isinstance(text, str):
        raise BadText(None)
    draft = Draft()
    for index, row in enumerate(text.split("\n")):
        if not draft.take(row):
            raise BadText(index)
    return draft.store()


def is_written(text):
    """Whether any value is the written text of some store."""
    try:
        live = read(text)
    except BadText:
        return False
    return write(live) == text


def rows_of(live, word):
    """The rows of the text of a live store that tell of this."""
    rows = _rows(live)
    if not isinstance(word, str) or word not in FIRST_WORDS:
        raise NoName(word)
    return [" ".join(row) for row in rows if row[0] in FIRST_WORDS[word]]


def _rows(live):
    """The lists of the words of all rows."""
    if not isinstance(live, Live) or live.walks():
        raise NoStore(live)
    setting = live.setting()
    rows = [
        _setting_row(setting),
        ["condition"] + condition_words(setting.condition),
        ["plan"] + condition_words(setting.plan),
    ]
    rows.extend([["rule"] + rule_words(rule) for rule in setting.rules.all_rules()])
    rows.extend([["deed", str(moment)] + deed_words(deed) for moment, number, deed in live.records(0) if number == 0])
    rows.extend([_edit_row(kind, edit) for kind, edit in zip(live.kinds(), live.edits())])
    return rows + _page_rows(live)


def _setting_row(setting):
    counts = [setting.many, setting.reads, setting.writes, setting.unruly, setting.pages]
    return ["setting"] + [str(count) for count in counts] + [setting.reading, setting.making]


def _edit_row(kind, edit):
    lot, change = edit
    return [kind, lot_word(lot)] + (change_words(change) if kind == "edit" else [])


def _page_rows(live):
    """The rows of the records that do not lie in page 0."""
    rows = []
    for copy in range(live.setting().many):
        for moment, number, _ in live.records(copy):
            page = live.page_of(copy, moment, number)
            if page > 0:
                rows.append(["page", str(copy), str(moment), str(number), str(page)])
    return rows
