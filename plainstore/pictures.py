"""Pictures: all that the tests of a condition can tell of a row, with values by regions."""

from plainstore.arguments import check_key, check_past, check_time
from plainstore.conditions import check_condition, said
from plainstore.errors import NoName, NoPicture, TooMany
from plainstore.limits import LAST_VALUE, is_number
from plainstore.pasts import Past
from plainstore.tables import table_of
from plainstore.trees import run_tree, tests_within, tree_of

MOST_PICTURES = 520
OUTCOMES = ("fault", "no", "yes")


def cuts_of(condition):
    """The dict from the names, in order, to the ascending tuples of their values."""
    check_condition(condition)
    return cuts_by(tests_within(condition))


def region(cuts, value):
    """The region of a value: odd at a cut, even between cuts."""
    less = len([cut for cut in cuts if cut < value])
    return 2 * less + 1 if value in cuts else 2 * less


def witness(cuts, region):
    """The least value in a region, None if none is in it."""
    if region > 2 * len(cuts):
        return None
    place = region // 2
    if region != 2 * place:
        return cuts[place]
    least = cuts[place - 1] + 1 if place > 0 else 0
    most = cuts[place] - 1 if place < len(cuts) else LAST_VALUE
    return least if least <= most else None


def pictures(condition):
    """All pictures of a condition, in order."""
    return pictures_by(cuts_of(condition))


def picture_of(condition, past, key, t):
    """The picture that tells what is so of a key at t."""
    check_past(past)
    check_condition(condition)
    check_key(key)
    check_time(t)
    cuts = cuts_of(condition)
    columns, rows = table_of(past.deeds(), t)
    names = [name for name, _ in columns]
    if key not in rows:
        return (False, tuple([name in names for name in cuts]))
    values = dict(zip(names, rows[key]))
    return (True, tuple([region(cuts[name], values[name]) if name in values else None for name in cuts]))


def past_of(condition, picture):
    """The past of a picture: its columns are added, then the row of key 0 is put."""
    cuts = cuts_of(condition)
    check_picture(cuts, picture)
    return past_by(cuts, picture)


def outcome(condition, picture):
    """The outcome of the condition's run where the picture tells what is so."""
    cuts = cuts_of(condition)
    check_picture(cuts, picture)
    return outcome_by(condition, cuts, picture)


def first_with(condition, word):
    """The first picture with this outcome, or None."""
    cuts = cuts_of(condition)
    if not isinstance(word, str) or word not in OUTCOMES:
        raise NoName(word)
    for picture in pictures_by(cuts):
        if outcome_by(condition, cuts, picture) == word:
            return picture
    return None


def unlike(one, other):
    """None, or the first picture of both conditions at which their outcomes are unlike."""
    cuts = _joint_cuts(one, other)
    for picture in pictures_by(cuts):
        if outcome_by(one, cuts, picture) != outcome_by(other, cuts, picture):
            return picture
    return None


def unlike_past(one, other):
    """None, or the past of the first picture of both conditions at which their outcomes are unlike."""
    picture = unlike(one, other)
    return None if picture is None else past_by(_joint_cuts(one, other), picture)


def cuts_by(tests):
    """The dict from the names of tests, in order, to the ascending tuples of their values."""
    values = {}
    for _, *parts in tests:
        if parts:
            values[parts[0]] = values.get(parts[0], []) + parts[1:]
    return {name: tuple(sorted(set(values[name]))) for name in values}


def pictures_by(cuts):
    """All pictures by these names and cuts, in order."""
    without = [(False, truths) for truths in _ways([[False, True] for _ in cuts])]
    return without + [(True, cells) for cells in _ways([_cells(cuts[name]) for name in cuts])]


def check_picture(cuts, picture):
    """Refuse what is no picture by these names and cuts."""
    if not _is_picture(cuts, picture):
        raise NoPicture(picture)


def past_by(cuts, picture):
    """The past of a picture by these names and cuts."""
    has_row, cells = picture
    deeds = []
    for name, cell in zip(list(cuts), cells):
        if cell is not None and cell is not False:
            deeds.append((len(deeds) + 1, "add", name, witness(cuts[name], cell) if has_row else 0))
    if has_row:
        deeds.append((len(deeds) + 1, "put", 0, ()))
    return Past(deeds)


def outcome_by(condition, cuts, picture):
    """The outcome of a condition where a picture, by cuts that have all of its own, tells what is so."""
    told, _ = run_tree(tree_of(condition), answers_in(tests_within(condition), cuts, picture))
    return told


def answers_in(tests, cuts, picture):
    """The answers of tests where a picture tells what is so, a list: each "yes", "no" or "fault"."""
    has_row, told = picture
    cells = dict(zip(list(cuts), told))
    return [_answer(test, cuts, has_row, cells) for test in tests]


def _answer(test, cuts, has_row, cells):
    word, *parts = test
    if word == "row":
        return said(has_row)
    cell = cells[parts[0]]
    if word == "has":
        return said(cell is not None and cell is not False)
    if not has_row or cell is None:
        return "fault"
    # The value of a test is a cut, so that a region is wholly below it, wholly above it, or it alone.
    own = region(cuts[parts[0]], parts[1])
    return said(cell == own if word == "eq" else cell < own)


def _cells(cuts):
    """What a picture with a row may tell of a name with these cuts."""
    regions = [place for place in range(2 * len(cuts) + 1) if witness(cuts, place) is not None]
    return [None] + regions


def _ways(choices):
    """All tuples with one of each list, those of the first list that come first ahead."""
    told = [()]
    for some in choices:
        told = [way + (one,) for way in told for one in some]
    return told


def _is_picture(cuts, value):
    if not isinstance(value, tuple) or len(value) != 2:
        return False
    has_row, told = value
    if not isinstance(told, tuple) or len(told) != len(cuts):
        return False
    if has_row is False:
        return all([truth is True or truth is False for truth in told])
    if has_row is not True:
        return False
    return all([cell is None or _is_region(cuts[name], cell) for name, cell in zip(list(cuts), told)])


def _is_region(cuts, value):
    return is_number(value) and value >= 0 and witness(cuts, value) is not None


def _joint_cuts(one, other):
    check_condition(one)
    check_condition(other)
    cuts = cuts_by(tests_within(one) + tests_within(other))
    without, within = 1, 1
    for name in cuts:
        without = without * 2
        within = within * len(_cells(cuts[name]))
    if without + within > MOST_PICTURES:
        raise TooMany(MOST_PICTURES)
    return cuts
