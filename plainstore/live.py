"""A live store: copies, pages and walks that go on, with deeds that can be taken back, and trials."""

from plainstore.conditions import run
from plainstore.copies import Copies
from plainstore.errors import NoMove, NoWalk
from plainstore.limits import is_number
from plainstore.plain import ask
from plainstore.rules import invented
from plainstore.settings import check_setting
from plainstore.standings import Standing
from plainstore.tapes import Tape, Trial
from plainstore.walks import check_page, check_rule


class Live:
    """A store that goes on, by a setting and from a first past."""

    def __init__(self, setting, past=None):
        check_setting(setting)
        self._setting = setting
        self._tape = Tape(Standing(Copies(setting.many, past), (), {}, {}, 0))

    def setting(self):
        """The setting."""
        return self._setting

    def past(self):
        """The past behind all edits."""
        return self._tape.now.copies.past()

    def edits(self):
        """The pairs (lot, change) of all edits, undos and redos."""
        return self._tape.now.copies.edits()

    def kinds(self):
        """The words "edit", "undo" and "redo" of these, in order."""
        return list(self._tape.now.words)

    def line(self):
        """The pair (done, undone) of tuples of numbers of edits."""
        return self._tape.now.copies.line()

    def records(self, copy):
        """The records that lie on a copy, by moments, then numbers."""
        return self._tape.now.copies.records(copy)

    def seen(self, lot):
        """The deeds that a lot sees, by moments."""
        return self._tape.now.copies.seen(lot)

    def lacks(self, lot):
        """The moments at which a lot sees otherwise than the past has it, ascending."""
        return self._tape.now.copies.lacks(lot)

    def page_of(self, copy, moment, number):
        """The page in which a record of a copy lies."""
        places = [(own, other) for own, other, _ in self.records(copy)]
        if not is_number(moment) or not is_number(number) or (moment, number) not in places:
            raise NoMove(None)
        return self._tape.now.page_at(copy, moment, number)

    def ask(self, key, name, t):
        """What the past has for a key and a name."""
        return ask(self.past(), key, name, t)

    def run(self, key, t):
        """The outcome of the plan for a key."""
        return run(self._setting.plan, self.past(), key, t)

    def invented(self, t):
        """The rows that the rules invent."""
        return invented(self._setting.rules, self.past(), t)

    def edit(self, lot, change):
        """Make the next edit."""
        copies = self._tape.now.copies.twin()
        copies.edit(lot, change)
        self._tape.put(self._tape.now.written(copies, "edit"))

    def undo(self, lot):
        """Take back the last edit that is done."""
        copies = self._tape.now.copies.twin()
        copies.undo(lot)
        self._tape.put(self._tape.now.written(copies, "undo"))

    def redo(self, lot):
        """Do the first edit that is undone again."""
        copies = self._tape.now.copies.twin()
        copies.redo(lot)
        self._tape.put(self._tape.now.written(copies, "redo"))

    def move(self, copy, moment, number, page):
        """Move a record on one copy to another page."""
        own = self.page_of(copy, moment, number)
        check_page(self._setting.pages, page)
        if page == own or not self._tape.now.does_let(self._setting.pages, copy, own, page):
            raise NoMove(page)
        self._tape.put(self._tape.now.moved(copy, moment, number, page))

    def walk(self, copy, page, rule):
        """Begin a walk on a copy, and tell its number."""
        now = self._tape.now
        now.copies.check_copy(copy)
        check_page(self._setting.pages, page)
        check_rule(rule)
        self._tape.put(now.with_begun(copy, page, rule))
        return now.begun

    def step(self, walk):
        """Let a walk visit its next page; behind the last one the list of the records that it saw."""
        now = self._tape.now
        own = self._going(walk)
        behind = own.stepped(self._setting.pages, now.lying_on(own.on))
        if behind.done < self._setting.pages:
            self._tape.put(now.with_walk(walk, behind))
            return None
        self._tape.put(now.without_walk(walk))
        return [(moment, number, deed) for moment, number, deed in now.copies.records(own.on)
                if (moment, number) in behind.sighted]

    def drop(self, walk):
        """Let a walk go on no longer."""
        self._going(walk)
        self._tape.put(self._tape.now.without_walk(walk))

    def walks(self):
        """The list of (walk, copy, page, rule, how many visits) of those that go on, by their numbers."""
        going = self._tape.now.going
        return [(number, going[number].on, going[number].begin, going[number].rule, going[number].done)
                for number in sorted(going)]

    def back(self):
        """Take the last deed back."""
        self._tape.back()

    def again(self):
        """Lead to what was behind the deed that was taken back last."""
        self._tape.again()

    def forget(self):
        """Let nothing be taken back or done again of what was done so far."""
        self._tape = Tape(self._tape.now)

    def trial(self):
        """What leads a block of deeds that can leave the store as it was."""
        return Trial(self, self._tape)

    def trying(self, guest, *, kept=False):
        """What a guest returns that is called with the store within a trial; it is kept just if kept is True."""
        trial = self.trial()
        with trial as live:
            told = guest(live)
            if kept is True:
                trial.keep()
        return told

    def twin(self):
        """An equal store that goes on by itself."""
        other = Live(self._setting)
        other._tape = self._tape.twin()
        return other

    def __len__(self):
        return len(self._tape.backs)

    def __eq__(self, other):
        return isinstance(other, Live) and self._setting == other._setting and self._tape.now == other._tape.now

    def _going(self, walk):
        """The walk of this number."""
        if not is_number(walk) or walk not in self._tape.now.going:
            raise NoWalk(walk)
        return self._tape.now.going[walk]
