"""The errors that this package raises."""


class StoreError(ValueError):
    """Something was handed in that is not what it has to be; told says what."""

    def __init__(self, told):
        self.told = told


class NoDeed(StoreError):
    """What is told is no deed."""


class NoPast(StoreError):
    """What is told is no past, or stands where a past cannot have it."""


class NoMoment(StoreError):
    """What is told is no moment that is meant."""


class NoKey(StoreError):
    """What is told is no key."""


class NoName(StoreError):
    """What is told is no name."""


class NoChange(StoreError):
    """What is told is no change of the past."""


class NoCount(StoreError):
    """What is told is no count that is meant."""


class NoCopies(StoreError):
    """What is told are no copies."""


class NoLot(StoreError):
    """What is told is no lot of the copies, or no copy."""


class NoVotes(StoreError):
    """What is told are no votes."""


class NoNeed(StoreError):
    """What is told is no need."""


class NoEdit(StoreError):
    """What is told is no number of an edit."""


class NoChances(StoreError):
    """What is told are no chances."""


class NoPage(StoreError):
    """What is told is no page."""


class NoWay(StoreError):
    """What is told is no rule of walks."""


class NoMoves(StoreError):
    """What is told are no moves of a record, or where the first wrong one stands."""


class NoCondition(StoreError):
    """What is told is no condition."""


class NoPicture(StoreError):
    """What is told is no picture of the condition."""


class NoGuard(StoreError):
    """What is told is the path of a test that lacks a guard."""


class NoCosts(StoreError):
    """What is told are no costs of the tests."""


class NoShares(StoreError):
    """What is told are no shares of the tests."""


class NoArrangement(StoreError):
    """What is told is no arrangement of the condition."""


class NoPlan(StoreError):
    """What is told is no plan, or no knowing."""


class NoRules(StoreError):
    """What is told are no rules, or where the first wrong one stands."""


class NoKeys(StoreError):
    """What is told are not the keys that have rows."""


class NoTold(StoreError):
    """What is told is nothing that can be told of a row."""


class NoQuestion(StoreError):
    """What is told is no question."""


class NoWish(StoreError):
    """What is told is no wish."""


class NoSetting(StoreError):
    """What is told is no setting, or the word of the first wrong part."""


class NoStore(StoreError):
    """What is told is no live store that can be written."""


class NoWalk(StoreError):
    """What is told is no walk that goes on."""


class NoMove(StoreError):
    """What is told is no move that is let."""


class NothingBack(StoreError):
    """There is nothing to take back, or to do again."""


class BadText(StoreError):
    """What is told is the first row of a text that cannot stand."""


class NoLine(StoreError):
    """What is told is no line."""


class TooMany(OverflowError):
    """There is more than the most that is let."""

    def __init__(self, most):
        self.most = most
