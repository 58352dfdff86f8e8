"""Parted questions: runs of which the first tests are answered by one past, the others by another one."""

from plainstore.conditions import answers_at, check_condition
from plainstore.errors import NoCount
from plainstore.limits import LAST_MOMENT, is_number
from plainstore.pasts import Past, is_listed_past
from plainstore.pictures import answers_in, check_picture, cuts_of, past_by, pictures_by
from plainstore.trees import run_tree, tests_within, tree_of


def mixed_outcome(condition, one, other, count):
    """The outcome of the run of which the first so many tests are answered by one picture, the others by the other."""
    cuts = cuts_of(condition)
    check_picture(cuts, one)
    check_picture(cuts, other)
    if not is_number(count) or count < 0:
        raise NoCount(count)
    tests = tests_within(condition)
    return _mixed(tree_of(condition), answers_in(tests, cuts, one), answers_in(tests, cuts, other), count)


def parted(condition):
    """None, or (P, Q, c): the least count, then the first pictures whose mixed outcome is that of neither."""
    cases = _unlike_cases(condition)
    tree = tree_of(condition)
    for count in range(1, len(tests_within(condition))):
        known = {}
        for picture, answers, told, numbers in cases:
            begun = tuple([(number, answers[number]) for number in numbers[:count]])
            # Pictures that begin alike and tell alike have the same mixed outcomes.
            if len(numbers) > count and (told, begun) not in known:
                known[(told, begun)] = True
                other = _first_neither(tree, cases, begun, told)
                if other is not None:
                    return (picture, other, count)
    return None


def parted_paper(condition):
    """None, or ("parted", past, other, c), by which others can look at the mixed run themselves."""
    told = parted(condition)
    if told is None:
        return None
    one, other, count = told
    cuts = cuts_of(condition)
    return ("parted", past_by(cuts, one).deeds(), past_by(cuts, other).deeds(), count)


def accepts_parted(condition, paper):
    """Whether any value is a right paper of a parted condition, for key 0 behind all deeds."""
    check_condition(condition)
    if not isinstance(paper, tuple) or len(paper) != 4:
        return False
    word, past, other, count = paper
    if not isinstance(word, str) or word != "parted" or not is_number(count) or count < 1:
        return False
    if not is_listed_past(past) or not is_listed_past(other):
        return False
    tree = tree_of(condition)
    firsts, others = [_last_answers(condition, deeds) for deeds in (past, other)]
    sides = [run_tree(tree, answers)[0] for answers in (firsts, others)]
    return _mixed(tree, firsts, others, count) not in sides


def parted_over(condition):
    """Whether, asked over two keys, each key by another past, it can tell what is so by neither."""
    return len(set([told for _, _, told, _ in _unlike_cases(condition)])) > 1


def _mixed(tree, firsts, others, count):
    """The outcome of the run of which the first so many tests have the first answers."""
    told, numbers = run_tree(tree, firsts)
    if len(numbers) <= count:
        return told
    answers = list(others)
    for number in numbers[:count]:
        answers[number] = firsts[number]
    return run_tree(tree, answers)[0]


def _unlike_cases(condition):
    """For all unlike answers to the tests: (the first picture, answers, outcome, numbers of the tests asked)."""
    cuts = cuts_of(condition)
    tests = tests_within(condition)
    tree = tree_of(condition)
    told = {}
    for picture in pictures_by(cuts):
        answers = tuple(answers_in(tests, cuts, picture))
        if answers not in told:
            outcome, numbers = run_tree(tree, answers)
            told[answers] = (picture, answers, outcome, numbers)
    return list(told.values())


def _first_neither(tree, cases, begun, outcome):
    """The first picture by which a run that is begun so ends neither as by it nor with this outcome, or None."""
    for picture, own, told, _ in cases:
        answers = list(own)
        for number, answer in begun:
            answers[number] = answer
        mixed, _ = run_tree(tree, answers)
        if mixed not in (told, outcome):
            return picture
    return None


def _last_answers(condition, deeds):
    return answers_at(tests_within(condition), Past(deeds).deeds(), 0, LAST_MOMENT)
