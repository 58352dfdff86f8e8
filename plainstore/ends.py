"""Whether rules end: how often values may be made of made ones, and how many rows there are at most."""

from plainstore.errors import NoCount, NoRules, TooMany
from plainstore.inventing import Inventor, check_most
from plainstore.limits import is_number, is_within
from plainstore.makers import border_of, is_base, is_new, width_of
from plainstore.rules import chain_of, check_rules

MOST_ROWS = 10
MOST_COLUMNS = 4


def reached(rules):
    """The tables that base rules lead to, in the order of all tables."""
    check_rules(rules)
    found = {rule[2][0]: True for rule in rules.all_rules() if is_base(rule)}
    for _ in rules.tables():
        for rule in rules.all_rules():
            if not is_base(rule) and rule[1][0] in found:
                found[rule[2][0]] = True
    return [table for table in rules.tables() if table in found]


def arrows(rules):
    """The arrows of rules from reached tables: (rule, from, to, word), by rules, from, then to."""
    tables = reached(rules)
    told = []
    for rule in rules.all_rules():
        if not is_base(rule) and rule[1][0] in tables:
            told.extend(_arrows_of(rule))
    return told


def ends(rules):
    """Whether no ring of arrows has a making, so that no past makes rows without end."""
    return _ring(placed_arrows(rules)) is None


def numbers(rules):
    """The dict from the places of reached tables to how many makings lead there at most; None if there is no end."""
    placed = placed_arrows(rules)
    if _ring(placed) is not None:
        return None
    told = {place: 0 for place in _places_of(rules, reached(rules))}
    for rule in _rules_from(rules, reached(rules)):
        table, entries = rule[2]
        for number, entry in enumerate(entries):
            # With a border an arrow leads to a new entry of a rule from a table, from a place that has a number.
            if is_new(entry) and (is_base(rule) or not border_of(rule)):
                told[(table, number)] = 1
    is_rising = True
    while is_rising:
        is_rising = False
        for _, start, end, least in placed:
            if told[end] < told[start] + least:
                told[end] = told[start] + least
                is_rising = True
    return told


def greatest_depth(rules):
    """The greatest of the numbers, 0 without places, None if there is no end."""
    told = numbers(rules)
    return None if told is None else max(list(told.values()), default=0)


def ends_paper(rules):
    """The paper ("ends", pairs) with the numbers, or ("ring", base, way, ring)."""
    placed = placed_arrows(rules)
    ring = _ring(placed)
    if ring is None:
        return ("ends", list(numbers(rules).items()))
    base, way = _way_to(rules, ring[0][1][0])
    return ("ring", base, way, [(rule, start[1], end[1]) for rule, start, end, _ in ring])


def accepts_ends(rules, paper):
    """Whether any value is a right paper of rules that end, or that do not."""
    check_rules(rules)
    if not isinstance(paper, tuple) or not paper or not isinstance(paper[0], str):
        return False
    word, *parts = paper
    if word == "ends":
        return len(parts) == 1 and _are_right(rules, parts[0])
    return word == "ring" and len(parts) == 3 and _is_ring(rules, parts)


def most_rows(rules, count, *, most=2000):
    """How many rows are invented at most where there are so many rows."""
    check_rules(rules)
    if not is_within(count, 0, MOST_ROWS):
        raise NoCount(count)
    names = rules.column_names()
    if not ends(rules) or len(names) > MOST_COLUMNS:
        raise NoRules(None)
    check_most(most)
    if count == 0:
        return 0
    # There are values enough for all cells to be unlike; nothing makes more rows than that.
    inventor = Inventor(rules.all_rules(), most)
    rows = inventor.rows_of({name: -1 - place for place, name in enumerate(names)})
    shared = len(inventor.inner(rows))
    total = shared + count * (len(rows) - shared)
    if total > most:
        raise TooMany(most)
    return total


def placed_arrows(rules):
    """The arrows as (rule, place, place, how much more the number there is at least)."""
    flat = arrows(rules)
    tables = {rule[0]: (rule[1][0], rule[2][0]) for rule in rules.all_rules()}
    told = []
    for name, start, end, word in flat:
        source, head = tables[name]
        told.append((name, (source, start), (head, end), 1 if word == "making" else 0))
    return told


def _arrows_of(rule):
    """The arrows of a rule from a table, whether it is reached or not."""
    border = border_of(rule)
    told = []
    for start in range(width_of(rule[1])):
        for end, entry in enumerate(rule[2][1]):
            if is_new(entry) and start in border:
                told.append((rule[0], start, end, "making"))
            elif entry == start:
                told.append((rule[0], start, end, "move"))
    return told


def _places_of(rules, tables):
    widths = rules.tables()
    return [(table, number) for table in tables for number in range(widths[table])]


def _rules_from(rules, tables):
    """The base rules, and the rules from these tables."""
    return [rule for rule in rules.all_rules() if is_base(rule) or rule[1][0] in tables]


def _ring(placed):
    """The arrows of a ring that has a making, from the first making of one on, or None."""
    for arrow in placed:
        _, start, end, least = arrow
        if least > 0:
            way = _way_between(placed, end, start)
            if way is not None:
                return [arrow] + way
    return None


def _way_between(placed, first, last):
    """The arrows of a shortest way between two places, or None."""
    ways = {first: []}
    waiting = [first]
    at = 0
    while at < len(waiting):
        for arrow in placed:
            _, start, end, _ = arrow
            if start == waiting[at] and end not in ways:
                ways[end] = ways[start] + [arrow]
                waiting.append(end)
        at += 1
    return ways.get(last)


def _way_to(rules, table):
    """The names of a base rule, and of the rules of a shortest way from its head to a reached table."""
    ways = {}
    waiting = []
    for rule in rules.all_rules():
        if is_base(rule) and rule[2][0] not in ways:
            ways[rule[2][0]] = (rule[0], [])
            waiting.append(rule[2][0])
    at = 0
    while at < len(waiting):
        base, way = ways[waiting[at]]
        for rule in rules.all_rules():
            if not is_base(rule) and rule[1][0] == waiting[at] and rule[2][0] not in ways:
                ways[rule[2][0]] = (base, way + [rule[0]])
                waiting.append(rule[2][0])
        at += 1
    return ways[table]


def _is_ring(rules, parts):
    """Whether these are a base rule, a way and a ring behind it that has a making."""
    base, way, ring = parts
    ahead = chain_of(rules, base, way)
    if ahead is None or not isinstance(ring, (list, tuple)) or not ring:
        return False
    if not all([isinstance(row, tuple) and len(row) == 3 for row in ring]):
        return False
    chain = chain_of(rules, base, [*way, *[row[0] for row in ring]])
    if chain is None or chain[-1][2][0] != ahead[-1][2][0]:
        return False
    words = []
    for place, (rule, row) in enumerate(zip(chain[len(ahead):], ring)):
        _, start, end = row
        if not is_number(start) or not is_number(end) or not _is_from(ring[place - 1][2], start):
            return False
        words.extend([word for _, first, last, word in _arrows_of(rule) if (first, last) == (start, end)])
    return len(words) == len(ring) and "making" in words


def _is_from(end, start):
    """Whether any value is the number at which the arrow ahead ends."""
    return is_number(end) and end == start


def _are_right(rules, pairs):
    """Whether any value is a list or tuple of pairs (place, number) that shows that the rules end."""
    if not isinstance(pairs, (list, tuple)) or not all([_is_pair(rules, pair) for pair in pairs]):
        return False
    told = {place: number for place, number in pairs}
    if len(told) < len(pairs):
        return False
    tables = sorted(set([table for table, _ in told]))
    lacking = [place for place in _places_of(rules, tables) if place not in told]
    return not lacking and all([_is_kept(rule, told) for rule in _rules_from(rules, tables)])


def _is_kept(rule, told):
    """Whether the numbers are high enough in the head of a rule, beside those in its source."""
    table, entries = rule[2]
    for number, entry in enumerate(entries):
        if told.get((table, number), -1) < (1 if is_new(entry) else 0):
            return False
    if is_base(rule):
        return True
    source, _ = rule[1]
    for _, start, end, word in _arrows_of(rule):
        if told[(table, end)] < told[(source, start)] + (1 if word == "making" else 0):
            return False
    return True


def _is_pair(rules, value):
    if not isinstance(value, tuple) or len(value) != 2:
        return False
    place, number = value
    if not isinstance(place, tuple) or len(place) != 2 or not is_number(number) or number < 0:
        return False
    table, at = place
    widths = rules.tables()
    return isinstance(table, str) and table in widths and is_within(at, 0, widths[table] - 1)
