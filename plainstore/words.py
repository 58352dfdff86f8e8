"""The words of texts and of the console: counts, names, lots, deeds and changes."""

from plainstore.deeds import LETTERS, is_name

DIGITS = "0123456789"
LONGEST_COUNT = 3
LONGEST_RULE = 8
DEED_PLACES = {
    "strike": ("count",),
    "add": ("name", "count"),
    "drop": ("name",),
    "rename": ("name", "name"),
}


def read_places(kinds, words):
    """The list of what the words tell in places of these kinds, or None."""
    if len(words) != len(kinds):
        return None
    told = [_read_place(kind, word) for kind, word in zip(kinds, words)]
    return None if None in told else told


def read_count(word):
    """The number that a word of up to three figures tells, or None."""
    if not 1 <= len(word) <= LONGEST_COUNT or not all([figure in DIGITS for figure in word]):
        return None
    return None if word[0] == "0" and word != "0" else int(word)


def read_lot(word):
    """The tuple of the numbers that a word tells, whether it is a lot or not, or None."""
    if word == "-":
        return ()
    told = [read_count(part) for part in word.split(",")]
    return None if None in told else tuple(told)


def read_deed(moment, words):
    """The tuple that the words of a deed tell, whether it is a deed or not, or None."""
    if not words:
        return None
    word, *others = words
    if word == "put":
        told = _read_put(others)
    elif word in DEED_PLACES:
        told = read_places(DEED_PLACES[word], others)
    else:
        told = None
    return None if told is None else (moment, word, *told)


def read_change(words):
    """The pair that a moment and the words of a deed, or none, tell, whether it is a change or not, or None."""
    moment = read_count(words[0]) if words else None
    if moment is None:
        return None
    if words[1:] == ["none"]:
        return ("out", moment)
    deed = read_deed(moment, words[1:])
    return None if deed is None else ("in", deed)


def lot_word(lot):
    """The word of a lot."""
    return ",".join([str(copy) for copy in lot]) if lot else "-"


def deed_words(deed):
    """The words of a deed, without its moment."""
    _, word, *parts = deed
    if word != "put":
        return [word] + [str(part) for part in parts]
    key, pairs = parts
    told = [word, str(key)]
    for name, value in pairs:
        told.extend([name, str(value)])
    return told


def change_words(change):
    """The words of a change: its moment, and its deed or none."""
    word, what = change
    return [str(what), "none"] if word == "out" else [str(what[0])] + deed_words(what)


def _read_place(kind, word):
    if kind == "count":
        return read_count(word)
    if kind == "lot":
        return read_lot(word)
    if kind == "name":
        return word if is_name(word) else None
    return word if _is_rule_word(word) else None


def _is_rule_word(word):
    return 1 <= len(word) <= LONGEST_RULE and all([letter in LETTERS for letter in word])


def _read_put(words):
    """The list of a key and of the tuple of pairs that the words tell, or None."""
    kinds = ["count"] + ["name", "count"] * (len(words) // 2)
    told = read_places(kinds, words)
    if told is None:
        return None
    key, *others = told
    return [key, tuple([(others[at], others[at + 1]) for at in range(0, len(others), 2)])]
