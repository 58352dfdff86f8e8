"""Plain reckonings that several tests share, with nothing taken from the program."""

from itertools import combinations

from tests.reckon import State


def lots_of(count):
    """All lots of so many copies, by size, then ascending."""
    return [lot for size in range(count + 1) for lot in combinations(range(count), size)]


def plainly_enough(votes, need, unruly, lot):
    """Whether a lot is enough: its most votes are taken out one by one."""
    left = [votes[copy] for copy in lot]
    for _ in range(unruly):
        if left:
            left.remove(max(left))
    return sum(left) > sum(votes) - need


def state_at(deeds, t):
    """The state at t of deeds in any order."""
    state = State()
    for deed in sorted(deeds):
        if deed[0] <= t:
            state.do(deed)
    return state


def answer_at(deeds, key, name, t):
    """What is asked of a key and a name at t."""
    state = state_at(deeds, t)
    if name not in state.names():
        return "no column"
    row = state.row(key)
    return "no row" if row is None else row[name]
