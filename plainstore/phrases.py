"""The words of conditions and of rules in texts."""

from plainstore.conditions import MOST_NODES_WITHIN
from plainstore.deeds import is_name
from plainstore.makers import BASE, NEW, is_base, is_new
from plainstore.trees import NODES, parts_of
from plainstore.words import read_count, read_places

TEST_PLACES = {"row": (), "has": ("name",), "eq": ("name", "count"), "less": ("name", "count")}


def read_condition(words):
    """The tuple that the words tell, whether it is a condition or not, or None."""
    told, rest = _read_part(words, MOST_NODES_WITHIN)
    return None if rest else told


def condition_words(condition):
    """The words of a condition, a node ahead of its parts."""
    if condition[0] not in NODES:
        return [str(part) for part in condition]
    parts = parts_of(condition)
    told = [condition[0]] if condition[0] == "not" else [condition[0], str(len(parts))]
    for part in parts:
        told.extend(condition_words(part))
    return told


def read_rule(words):
    """The tuple that the words tell, whether it is a rule or not, or None."""
    if len(words) < 3 or not is_name(words[0]):
        return None
    source, rest = _read_base(words[2:]) if words[1] == "base" else _read_table(words[1:])
    if source is None or len(rest) < 2 or rest[0] != "to" or not is_name(rest[1]):
        return None
    entries = [_read_entry(word) for word in rest[2:]]
    return None if None in entries else (words[0], source, (rest[1], tuple(entries)))


def rule_words(rule):
    """The words of a rule."""
    name, (word, what), (table, entries) = rule
    told = [name, "base", str(len(what)), *what] if is_base(rule) else [name, "table", word, str(what)]
    told.extend(["to", table])
    return told + ["+" + entry[1] if is_new(entry) else str(entry) for entry in entries]


def _read_part(words, within):
    """The pair of the condition that the first words tell, with so many nodes within, and of the words behind it."""
    word = words[0] if words else ""
    if word in TEST_PLACES:
        many = 1 + len(TEST_PLACES[word])
        told = read_places(TEST_PLACES[word], words[1:many])
        return (None, words) if told is None else ((word, *told), words[many:])
    if word not in NODES or within == 0:
        return None, words
    if word == "not":
        parts, rest = _read_parts(1, words[1:], within - 1)
        return (None, words) if parts is None else ((word, parts[0]), rest)
    count = read_count(words[1]) if len(words) > 1 else None
    parts, rest = (None, words) if count is None else _read_parts(count, words[2:], within - 1)
    return (None, words) if parts is None else ((word, tuple(parts)), rest)


def _read_parts(count, words, within):
    """The pair of the list of so many conditions that the first words tell, and of the words behind them."""
    parts = []
    rest = words
    for _ in range(count):
        part, rest = _read_part(rest, within)
        if part is None:
            return None, words
        parts.append(part)
    return parts, rest


def _read_base(words):
    """The pair of the source that a count and so many names tell, and of the words behind them."""
    count = read_count(words[0])
    if count is None or not all([is_name(word) for word in words[1:1 + count]]):
        return None, words
    return (BASE, tuple(words[1:1 + count])), words[1 + count:]


def _read_table(words):
    """The pair of the source that a table and its width tell, and of the words behind them."""
    if len(words) < 3 or words[0] != "table":
        return None, words
    told = read_places(("name", "count"), words[1:3])
    return (None, words) if told is None else (tuple(told), words[3:])


def _read_entry(word):
    """The entry of a head that a word tells, or None."""
    if word[:1] == "+":
        return (NEW, word[1:]) if is_name(word[1:]) else None
    return read_count(word)
