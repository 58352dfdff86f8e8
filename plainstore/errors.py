"""The errors that this package raises."""


class StoreError(ValueError):
    """Something was handed in that is not what it has to be; told says what."""

    def __init__(self, told):
        self.told = told


class NoDeed(StoreError):
    """What is told is no deed."""

    def __init__(self, told):
        self.told = told


class NoPast(StoreError):
    """What is told is no past, or stands where a past cannot have it."""

    def __init__(self, told):
        self.told = told


class NoMoment(StoreError):
    """What is told is no moment that is meant."""

    def __init__(self, told):
        self.told = told


class NoKey(StoreError):
    """What is told is no key."""

    def __init__(self, told):
        self.told = told


class NoName(StoreError):
    """What is told is no name."""

    def __init__(self, told):
        self.told = told


class NoChange(StoreError):
    """What is told is no change of the past."""

    def __init__(self, told):
        self.told = told


class NoCount(StoreError):
    """What is told is no count that is meant."""

    def __init__(self, told):
        self.told = told


class NoCopies(StoreError):
    """What is told are no copies."""

    def __init__(self, told):
        self.told = told


class NoLot(StoreError):
    """What is told is no lot of the copies, or no copy."""

    def __init__(self, told):
        self.told = told


class NoVotes(StoreError):
    """What is told are no votes."""

    def __init__(self, told):
        self.told = told


class NoNeed(StoreError):
    """What is told is no need."""

    def __init__(self, told):
        self.told = told


class NoEdit(StoreError):
    """What is told is no number of an edit."""

    def __init__(self, told):
        self.told = told


class NoChances(StoreError):
    """What is told are no chances."""

    def __init__(self, told):
        self.told = told


class NoPage(StoreError):
    """What is told is no page."""

    def __init__(self, told):
        self.told = told


class NoWay(StoreError):
    """What is told is no rule of walks."""

    def __init__(self, told):
        self.told = told


class NoMoves(StoreError):
    """What is told are no moves of a record, or where the first wrong one stands."""

    def __init__(self, told):
        self.told = told


class NoCondition(StoreError):
    """What is told is no condition."""

    def __init__(self, told):
        self.told = told


class NoPicture(StoreError):
    """What is told is no picture of the condition."""

    def __init__(self, told):
        self.told = told


class NoGuard(StoreError):
    """What is told is the path of a test that lacks a guard."""

    def __init__(self, told):
        self.told = told


class NoCosts(StoreError):
    """What is told are no costs of the tests."""

    def __init__(self, told):
        self.told = told


class NoShares(StoreError):
    """What is told are no shares of the tests."""

    def __init__(self, told):
        self.told = told


class NoArrangement(StoreError):
    """What is told is no arrangement of the condition."""

    def __init__(self, told):
        self.told = told


class NoPlan(StoreError):
    """What is told is no plan, or no knowing."""

    def __init__(self, told):
        self.told = told


class NoRules(StoreError):
    """What is told are no rules, or where the first wrong one stands."""

    def __init__(self, told):
        self.told = told


class NoKeys(StoreError):
    """What is told are not the keys that have rows."""

    def __init__(self, told):
        self.told = told


class NoTold(StoreError):
    """What is told is nothing that can be told of a row."""

    def __init__(self, told):
        self.told = told


class NoQuestion(StoreError):
    """What is told is no question."""

    def __init__(self, told):
        self.told = told


class NoWish(StoreError):
    """What is told is no wish."""

    def __init__(self, told):
        self.told = told


class NoSetting(StoreError):
    """What is told is no setting, or the word of the first wrong part."""

    def __init__(self, told):
        self.told = told


class NoStore(StoreError):
    """What is told is no live store that can be written."""

    def __init__(self, told):
        self.told = told


class NoWalk(StoreError):
    """What is told is no walk that goes on."""

    def __init__(self, told):
        self.told = told


class NoMove(StoreError):
    """What is told is no move that is let."""

    def __init__(self, told):
        self.told = told


class NothingBack(StoreError):
    """There is nothing to take back, or to do again."""

    def __init__(self, told):
        self.told = told


class BadText(StoreError):
    """What is told is the first row of a text that cannot stand."""

    def __init__(self, told):
        self.told = told


class NoLine(StoreError):
    """What is told is no line."""

    def __init__(self, told):
        self.told = told


class TooMany(OverflowError):
    """There is more than the most that is let."""

    def __init__(self, most):
        self.most = most
