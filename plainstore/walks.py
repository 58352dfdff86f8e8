"""Walks through pages, and the records that move while they go on."""

from plainstore.errors import NoCount, NoMoves, NoPage, NoWay
from plainstore.limits import is_number, is_within

RULES = ("barred", "free", "left")
MOST_PAGES = 6
MOST_WALKS = 5
MOST_PLACES = 20


def distance(pages, begin, page):
    """How many visits of a walk come ahead of that of the page."""
    _check_pages(pages)
    check_page(pages, begin)
    check_page(pages, page)
    return (page - begin) % pages


def is_let(pages, rule, begin, page, moves):
    """Whether any value is let moves of a record on this page."""
    _check_walk(pages, rule, begin, page)
    return isinstance(moves, (list, tuple)) and _first_wrong(pages, rule, begin, page, moves) is None


def sights(pages, rule, begin, page, moves):
    """At how many visits a record on this page is seen, if it moves so."""
    _check_walk(pages, rule, begin, page)
    if not isinstance(moves, (list, tuple)):
        raise NoMoves(None)
    wrong = _first_wrong(pages, rule, begin, page, moves)
    if wrong is not None:
        raise NoMoves(wrong)
    return _sights(pages, rule, begin, page, moves)


def walk_paper(pages, rule):
    """A paper of walks: how one misses a record, or the states that show that none does."""
    _check_pages(pages)
    check_rule(rule)
    if rule == "free" and pages > 1:
        return ("miss", 0, 1, [(0, 0)])
    found = {}
    waiting = _beginnings(pages)
    while waiting:
        state = waiting.pop()
        if state not in found:
            found[state] = True
            waiting.extend(_states_behind(pages, rule, state))
    return ("none", sorted(found))


def accepts_walk(pages, rule, value):
    """Whether any value is a right paper of walks."""
    _check_pages(pages)
    check_rule(rule)
    if not isinstance(value, tuple) or not value or not isinstance(value[0], str):
        return False
    word, *parts = value
    if word == "miss":
        return len(parts) == 3 and _is_miss(pages, rule, parts)
    return word == "none" and len(parts) == 1 and _are_closed(pages, rule, parts[0])


def least_moves(pages, begins, page):
    """The fewest moves by which all free walks miss a record on this page, or None."""
    _check_begins(pages, begins)
    check_page(pages, page)
    return _least_moves(pages, begins, page)


def most_missed(pages, begins, places, count):
    """How many of the records on these pages all free walks can miss with so many moves together."""
    _check_begins(pages, begins)
    _check_listed(pages, places, 0, MOST_PLACES)
    if not is_number(count) or count < 0:
        raise NoCount(count)
    needs = [_least_moves(pages, begins, page) for page in places]
    left = count
    missed = 0
    for need in sorted([need for need in needs if need is not None]):
        if need <= left:
            left -= need
            missed += 1
    return missed


def check_page(pages, page):
    """Refuse what is none of so many pages."""
    if not is_within(page, 0, pages - 1):
        raise NoPage(page)


def check_rule(rule):
    """Refuse what is no rule of walks."""
    if not isinstance(rule, str) or rule not in RULES:
        raise NoWay(rule)


def is_barred(pages, begin, done, own, other):
    """Whether a record would move from a page that is not visited yet to one that is."""
    return (other - begin) % pages < done <= (own - begin) % pages


def _check_pages(pages):
    if not is_within(pages, 1, MOST_PAGES):
        raise NoCount(pages)


def _check_walk(pages, rule, begin, page):
    _check_pages(pages)
    check_rule(rule)
    check_page(pages, begin)
    check_page(pages, page)


def _check_begins(pages, begins):
    _check_pages(pages)
    _check_listed(pages, begins, 1, MOST_WALKS)


def _check_listed(pages, listed, least, most):
    if not isinstance(listed, (list, tuple)) or not least <= len(listed) <= most:
        raise NoPage(listed)
    if not all([is_within(page, 0, pages - 1) for page in listed]):
        raise NoPage(listed)


def _first_wrong(pages, rule, begin, page, moves):
    """The index of the first move that is none, or not let; None if there is none."""
    last = 0
    own = page
    for index, move in enumerate(moves):
        if not isinstance(move, tuple) or len(move) != 2:
            return index
        visit, other = move
        # Behind the last visit nothing moves any more.
        if not is_within(visit, last, pages - 2) or not is_within(other, 0, pages - 1) or other == own:
            return index
        if rule == "barred" and is_barred(pages, begin, visit + 1, own, other):
            return index
        last, own = visit, other
    return None


def _sights(pages, rule, begin, page, moves):
    own = page
    lain = [page]
    count = 0
    for visit in range(pages):
        here = (begin + visit) % pages
        if here == own or rule == "left" and here in lain:
            count += 1
        for behind, other in moves:
            if behind == visit:
                own = other
                lain.append(other)
    return count


def _beginnings(pages):
    return [(begin, 0, (page,), 0) for begin in range(pages) for page in range(pages)]


def _states_behind(pages, rule, state):
    """The states that come of one by the next visit, and by each let move."""
    begin, done, own, seen = state
    if done == pages:
        return []
    here = (begin + done) % pages
    told = [(begin, done + 1, own, 1 if here in own else seen)]
    if done > 0:
        for page in range(pages):
            if rule == "left":
                told.append((begin, done, tuple(sorted(set(own + (page,)))), seen))
            elif rule == "free" or not is_barred(pages, begin, done, own[0], page):
                told.append((begin, done, (page,), seen))
    return told


def _is_miss(pages, rule, parts):
    begin, page, moves = parts
    if not is_within(begin, 0, pages - 1) or not is_within(page, 0, pages - 1) or not isinstance(moves, (list, tuple)):
        return False
    if _first_wrong(pages, rule, begin, page, moves) is not None:
        return False
    return _sights(pages, rule, begin, page, moves) == 0


def _are_closed(pages, rule, states):
    """Whether any value is a list or tuple of states that shows that no walk misses a record."""
    if not isinstance(states, (list, tuple)) or not all([_is_state(pages, rule, state) for state in states]):
        return False
    if not all([one < other for one, other in zip(states, states[1:])]):
        return False
    known = {state: True for state in states}
    if not all([state in known for state in _beginnings(pages)]):
        return False
    for state in states:
        _, done, _, seen = state
        if done == pages and seen == 0:
            return False
        if not all([behind in known for behind in _states_behind(pages, rule, state)]):
            return False
    return True


def _is_state(pages, rule, value):
    if not isinstance(value, tuple) or len(value) != 4:
        return False
    begin, done, own, seen = value
    if not is_within(begin, 0, pages - 1) or not is_within(done, 0, pages) or not is_within(seen, 0, 1):
        return False
    if not isinstance(own, tuple) or not all([is_within(page, 0, pages - 1) for page in own]):
        return False
    if not all([one < other for one, other in zip(own, own[1:])]):
        return False
    return len(own) >= 1 if rule == "left" else len(own) == 1


def _least_moves(pages, begins, page):
    costs = {page: 0}
    visits = [(begin + visit) % pages for begin in begins for visit in range(pages)]
    for number, here in enumerate(visits):
        if number > 0:
            # Between two visits one move leads to any page, and more than one to no other.
            moved = min(list(costs.values())) + 1
            costs = {other: min(costs.get(other, moved), moved) for other in range(pages)}
        costs = {other: costs[other] for other in costs if other != here}
        if not costs:
            return None
    return min(list(costs.values()))
