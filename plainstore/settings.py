"""Settings: how a store is written, read and asked, and whether all that it answers is plain."""

from plainstore.conditions import is_arrangement, is_condition
from plainstore.ends import ends, placed_arrows, reached
from plainstore.errors import NoSetting
from plainstore.limits import is_within
from plainstore.lots import MOST_COPIES
from plainstore.makers import border_of, is_base, is_new
from plainstore.parted import parted
from plainstore.pictures import unlike
from plainstore.rules import Rules
from plainstore.walked import lost_case
from plainstore.walks import MOST_PAGES

READINGS = ("one", "each")
MAKINGS = ("content", "number")


class Setting:
    """The counts, the question, the plan and the rules of a store, which never change."""

    def __init__(self, count=3, reads=2, writes=2, unruly=0, pages=1, *,
                 condition=("row",), plan=None, reading="one", making="content", rules=None):
        _check_counts(count, reads, writes, unruly, pages)
        if not is_condition(condition):
            raise NoSetting("condition")
        if plan is not None and not is_arrangement(condition, plan):
            raise NoSetting("plan")
        _check_word("reading", reading, READINGS)
        _check_word("making", making, MAKINGS)
        if rules is not None and (not isinstance(rules, Rules) or not ends(rules)):
            raise NoSetting("rules")
        self._counts = (count, reads, writes, unruly, pages)
        self._condition = condition
        self._plan = condition if plan is None else plan
        self._reading = reading
        self._making = making
        self._rules = Rules() if rules is None else rules

    @property
    def many(self):
        """How many copies there are."""
        return self._counts[0]

    @property
    def reads(self):
        """How many copies a read has."""
        return self._counts[1]

    @property
    def writes(self):
        """To how many copies an edit is written."""
        return self._counts[2]

    @property
    def unruly(self):
        """How many copies of a read may be read by walks that miss records."""
        return self._counts[3]

    @property
    def pages(self):
        """In how many pages the records of a copy lie."""
        return self._counts[4]

    @property
    def condition(self):
        """What is asked of keys."""
        return self._condition

    @property
    def plan(self):
        """The arrangement of the condition by which it is run."""
        return self._plan

    @property
    def reading(self):
        """Whether a run is read at "one" time, or "each" of its tests at its own."""
        return self._reading

    @property
    def making(self):
        """Whether made values are told by "content", or by "number"."""
        return self._making

    @property
    def rules(self):
        """The rules by which rows are invented."""
        return self._rules

    def twin(self):
        """An equal setting."""
        return Setting(
            self.many, self.reads, self.writes, self.unruly, self.pages, condition=self.condition, plan=self.plan,
            reading=self.reading, making=self.making, rules=self.rules,
        )

    def __eq__(self, other):
        return (
            isinstance(other, Setting) and self._counts == other._counts and self._condition == other._condition
            and self._plan == other._plan and self._reading == other._reading and self._making == other._making
            and self._rules == other._rules
        )


def verdict(setting):
    """("plain",), or ("bars", part, case) with the first part that is wrong."""
    check_setting(setting)
    case = lost_case(setting.many, setting.reads, setting.writes, setting.unruly, setting.pages)
    if case is not None:
        return ("bars", "copies", case)
    case = unlike(setting.condition, setting.plan)
    if case is not None:
        return ("bars", "plan", case)
    case = parted(setting.plan) if setting.reading == "each" else None
    if case is not None:
        return ("bars", "reading", case)
    case = _varying_entry(setting.rules) if setting.making == "number" else None
    return ("plain",) if case is None else ("bars", "making", case)


def is_plain(setting):
    """Whether every answer is plain, whatever comes."""
    return verdict(setting) == ("plain",)


def varying(rules):
    """The places of reached tables at which there are values of columns, or made values that hang on such."""
    tables = reached(rules)
    found = {}
    for rule in rules.all_rules():
        if is_base(rule) and border_of(rule):
            # A base rule with a border has a number at one entry, and all that it makes anew hangs on that.
            for number in range(len(rule[2][1])):
                found[(rule[2][0], number)] = True
    placed = placed_arrows(rules)
    is_growing = True
    while is_growing:
        more = [end for _, start, end, _ in placed if start in found and end not in found]
        for place in more:
            found[place] = True
        is_growing = bool(more)
    widths = rules.tables()
    return [(table, number) for table in tables for number in range(widths[table]) if (table, number) in found]


def check_setting(setting):
    """Refuse what is no Setting."""
    if not isinstance(setting, Setting):
        raise NoSetting(setting)


def _check_counts(count, reads, writes, unruly, pages):
    """Refuse the first of these that is no count as it has to be."""
    if not is_within(count, 1, MOST_COPIES):
        raise NoSetting("count")
    if not is_within(reads, 1, count):
        raise NoSetting("reads")
    if not is_within(writes, 1, count):
        raise NoSetting("writes")
    if not is_within(unruly, 0, count):
        raise NoSetting("unruly")
    if not is_within(pages, 1, MOST_PAGES):
        raise NoSetting("pages")


def _check_word(told, value, words):
    """Refuse what is none of these words."""
    if not isinstance(value, str) or value not in words:
        raise NoSetting(told)


def _varying_entry(rules):
    """The pair (rule, word) of the first new entry that varies, or None."""
    places = varying(rules)
    for rule in rules.all_rules():
        table = rule[1][0]
        if is_base(rule):
            does_vary = bool(border_of(rule))
        else:
            does_vary = any([(table, number) in places for number in border_of(rule)])
        words = [entry[1] for entry in rule[2][1] if is_new(entry)]
        if does_vary and words:
            return (rule[0], words[0])
    return None
