"""The console: a live store that is led by lines of words."""

from plainstore.errors import NoLine, StoreError, TooMany
from plainstore.settings import verdict
from plainstore.texts import read, write
from plainstore.words import read_change, read_lot, read_places

PLACES = {
    "undo": ("lot",),
    "redo": ("lot",),
    "move": ("count", "count", "count", "count"),
    "drop": ("count",),
    "back": (),
    "again": (),
    "walk": ("count", "count", "rule"),
    "step": ("count",),
    "ask": ("count", "name", "count"),
    "run": ("count", "count"),
    "rows": ("count",),
    "seen": ("lot",),
    "lacks": ("lot",),
    "plain": (),
    "show": (),
}
LACKING = {"no row": "none", "no column": "nowhere"}


class Console:
    """What keeps rows, begins a live store of them, and leads it."""

    def __init__(self):
        self._kept = []
        self._live = None

    def run(self, line):
        """Do what a line says, and tell the answer."""
        if not isinstance(line, str):
            raise NoLine(line)
        if "\n" in line:
            return "unknown"
        if line[:1] == "+":
            self._kept.append(line[1:])
            return "ok"
        if line == "clear":
            self._kept = []
            self._live = None
            return "ok"
        if line == "begin":
            return self._begin()
        return self._lead(line)

    def _begin(self):
        try:
            live = read("\n".join(self._kept))
        except StoreError:
            return "error"
        self._live = live
        return "ok"

    def _lead(self, line):
        """Do what a line says that is for the live store."""
        word, *words = line.split(" ")
        told = _read_parts(word, words)
        if told is None:
            return "unknown"
        if self._live is None:
            return "error"
        act = ACTS[word]
        try:
            answer = act(self._live, told)
        except (StoreError, TooMany):
            return "error"
        return answer


def _read_parts(word, words):
    """What the words behind the first one of a line tell, or None where the line has no form."""
    if word == "edit":
        lot = read_lot(words[0]) if words else None
        change = read_change(words[1:])
        return None if lot is None or change is None else [lot, change]
    return read_places(PLACES[word], words) if word in PLACES else None


def _edit(live, told):
    lot, change = told
    live.edit(lot, change)
    return "ok"


def _undo(live, told):
    live.undo(told[0])
    return "ok"


def _redo(live, told):
    live.redo(told[0])
    return "ok"


def _move(live, told):
    copy, moment, number, page = told
    live.move(copy, moment, number, page)
    return "ok"


def _drop(live, told):
    live.drop(told[0])
    return "ok"


def _back(live, _):
    live.back()
    return "ok"


def _again(live, _):
    live.again()
    return "ok"


def _walk(live, told):
    copy, page, rule = told
    return str(live.walk(copy, page, rule))


def _step(live, told):
    seen = live.step(told[0])
    return "on" if seen is None else str(len(seen))


def _ask(live, told):
    key, name, t = told
    answer = live.ask(key, name, t)
    return LACKING[answer] if answer in LACKING else str(answer)


def _run(live, told):
    key, t = told
    return live.run(key, t)


def _rows(live, told):
    return str(len(live.invented(told[0])))


def _seen(live, told):
    return str(len(live.seen(told[0])))


def _lacks(live, told):
    moments = live.lacks(told[0])
    return " ".join([str(moment) for moment in moments]) if moments else "-"


def _plain(live, _):
    told = verdict(live.setting())
    return told[1] if len(told) > 1 else told[0]


def _show(live, _):
    return str(len(write(live).split("\n")))


ACTS = {
    "edit": _edit,
    "undo": _undo,
    "redo": _redo,
    "move": _move,
    "drop": _drop,
    "back": _back,
    "again": _again,
    "walk": _walk,
    "step": _step,
    "ask": _ask,
    "run": _run,
    "rows": _rows,
    "seen": _seen,
    "lacks": _lacks,
    "plain": _plain,
    "show": _show,
}
