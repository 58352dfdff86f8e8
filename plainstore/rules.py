"""Rules, by which rows of keys, and rows that were invented before, make others."""

from plainstore.arguments import check_past, check_time
from plainstore.deeds import is_name
from plainstore.errors import NoKeys, NoName, NoRules, NoTold
from plainstore.inventing import FIRST_MADE, Inventor, check_most
from plainstore.limits import is_number, is_value
from plainstore.makers import border_of, is_base, is_rule, tables_of
from plainstore.tables import rows_by_names

MOST_RULES = 6
MOST_TABLES = 4


class Rules:
    """Up to six rules of unlike names over up to four tables, which never change."""

    def __init__(self, rules=()):
        if not isinstance(rules, (list, tuple)) or len(rules) > MOST_RULES:
            raise NoRules(None)
        by_names = {}
        widths = {}
        for index, rule in enumerate(rules):
            if not is_rule(rule) or rule[0] in by_names:
                raise NoRules(index)
            by_names[rule[0]] = rule
            for table, width in tables_of(rule):
                if widths.get(table, width) != width:
                    raise NoRules(index)
                widths[table] = width
            if len(widths) > MOST_TABLES:
                raise NoRules(index)
        self._rules = by_names
        self._names = list(by_names)
        self._widths = widths

    def all_rules(self):
        """The rules, in order."""
        return [self._rules[name] for name in self._names]

    def names(self):
        """The names of the rules, in order."""
        return list(self._names)

    def tables(self):
        """The dict from the tables to their widths, in the order in which they come, a source ahead of its head."""
        return dict(self._widths)

    def column_names(self):
        """The names of columns of all base rules, in order, each once."""
        return list({name: True for rule in self.all_rules() if is_base(rule) for name in rule[1][1]})

    def border(self, name):
        """The numbers among the entries of a rule, each once."""
        if not isinstance(name, str) or name not in self._rules:
            raise NoName(name)
        return border_of(self._rules[name])

    def __len__(self):
        return len(self._names)

    def __iter__(self):
        """The names of the rules, in order."""
        return iter(self._names)

    def listed(self):
        """The list of the names of the rules, in order."""
        return list(self._names)

    def __eq__(self, other):
        return isinstance(other, Rules) and self._names == other._names and self._rules == other._rules


def invented(rules, past, t, *, most=2000):
    """The rows that the rules invent at t, in order."""
    check_rules(rules)
    check_past(past)
    check_time(t)
    check_most(most)
    inventor = Inventor(rules.all_rules(), most)
    rows = rows_by_names(past.deeds(), t)
    return inventor.as_told(inventor.together([inventor.rows_of(rows[key]) for key in rows]))


def numbered(rules, past, t, keys, *, most=2000):
    """The rows as a reader tells them who goes through the keys in this order."""
    check_rules(rules)
    check_past(past)
    check_time(t)
    rows = rows_by_names(past.deeds(), t)
    if not _are_all_keys(list(rows), keys):
        raise NoKeys(keys)
    check_most(most)
    inventor = Inventor(rules.all_rules(), most)
    numbers = {}
    told = []
    for table, entries in inventor.together([inventor.rows_of(rows[key]) for key in keys]):
        for value in entries:
            if value >= FIRST_MADE and value not in numbers:
                numbers[value] = ("n", len(numbers))
        told.append((table, tuple([numbers.get(value, value) for value in entries])))
    return told


def depth(value):
    """How deep made values stand one within another: 0 of a value of a column."""
    if is_number(value):
        return 0
    return 1 + max([depth(inside) for inside in value[2]], default=0)


def one_row(rules, values, *, most=2000):
    """The rows that one row makes which has these values, by the names of its columns."""
    check_rules(rules)
    if not isinstance(values, dict) or not all([is_name(name) and is_value(values[name]) for name in values]):
        raise NoTold(values)
    check_most(most)
    inventor = Inventor(rules.all_rules(), most)
    return inventor.as_told(inventor.rows_of(values))


def check_rules(rules):
    """Refuse what are no Rules."""
    if not isinstance(rules, Rules):
        raise NoRules(rules)


def chain_of(rules, base, way):
    """The rules of these names, a base rule and then each from the table of the head ahead of it, or None."""
    by_names = {rule[0]: rule for rule in rules.all_rules()}
    if not isinstance(way, (list, tuple)):
        return None
    chain = []
    for name in [base, *way]:
        if not isinstance(name, str) or name not in by_names:
            return None
        rule = by_names[name]
        if is_base(rule) != (not chain) or chain and chain[-1][2][0] != rule[1][0]:
            return None
        chain.append(rule)
    return chain


def _are_all_keys(keys, value):
    """Whether any value is a list or tuple of just these keys, each once."""
    if not isinstance(value, (list, tuple)) or not all([is_number(key) for key in value]):
        return False
    return sorted(value) == sorted(keys)
