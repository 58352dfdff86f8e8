"""Support: which rows invented rows hang on, and what is surely invented where not all values are known."""

from plainstore.albums import album_of, base_picture, does_answer, is_present, picture_by, pictures_behind
from plainstore.arguments import check_past, check_time
from plainstore.changes import check_change, deeds_behind
from plainstore.inventing import Inventor, check_most
from plainstore.makers import is_base
from plainstore.rules import chain_of, check_rules
from plainstore.tables import rows_by_names
from plainstore.tellings import check_present, check_question, check_told
from plainstore.tellings import is_known, is_listed_once, is_picture, is_question


def support(rules, past, t, *, most=2000):
    """The dict from all invented rows, in order, to the tuples of the keys whose row alone makes them."""
    check_rules(rules)
    check_past(past)
    check_time(t)
    check_most(most)
    inventor = Inventor(rules.all_rules(), most)
    values = rows_by_names(past.deeds(), t)
    by_keys = {key: inventor.rows_of(values[key]) for key in values}
    rows = inventor.together(list(by_keys.values()))
    makers = {row: () for row in rows}
    for key in by_keys:
        for row in by_keys[key]:
            makers[row] += (key,)
    return {told: makers[row] for told, row in zip(inventor.as_told(rows), rows)}


def brought(rules, past, change, t, *, most=2000):
    """The pair of the lists of the invented rows that go, and of those that come, by a change of the past."""
    check_rules(rules)
    check_change(past, change)
    check_time(t)
    check_most(most)
    inventor = Inventor(rules.all_rules(), most)
    deeds = past.deeds()
    before = _rows_at(inventor, deeds, t)
    after = _rows_at(inventor, deeds_behind(deeds, change), t)
    return (inventor.as_told(_lacking(before, after)), inventor.as_told(_lacking(after, before)))


def inner(rules, present, *, most=2000):
    """The invented rows without any value of a column that a row with these columns makes, in order."""
    check_rules(rules)
    check_present(present)
    check_most(most)
    inventor = Inventor(rules.all_rules(), most)
    # Numbers below 0 are unlike all values, and one another.
    rows = inventor.rows_of({name: -1 - place for place, name in enumerate(present)})
    return inventor.as_told(inventor.inner(rows))


def album(rules, present, known):
    """The pictures of all rows that a row makes of which this is told, in order of coming."""
    check_rules(rules)
    check_told(present, known)
    return list(album_of(rules, present, known))


def surely(rules, present, known, question):
    """Whether for all values that are not known some invented row answers the question."""
    check_rules(rules)
    check_told(present, known)
    check_question(rules, question)
    return any([does_answer(picture, question) for picture in album_of(rules, present, known)])


def sure_paper(rules, present, known, question):
    """The paper ("sure", present, known, question, base, way), or ("open", present, known, question, pictures)."""
    check_rules(rules)
    check_told(present, known)
    check_question(rules, question)
    ways = album_of(rules, present, known)
    for picture in ways:
        if does_answer(picture, question):
            base, way = ways[picture]
            return ("sure", tuple(present), dict(known), question, base, way)
    return ("open", tuple(present), dict(known), question, list(ways))


def accepts_sure(rules, paper):
    """Whether any value is a right paper of what is surely invented, or is not."""
    check_rules(rules)
    if not isinstance(paper, tuple) or len(paper) < 4 or not isinstance(paper[0], str):
        return False
    word, present, known, question, *parts = paper
    if not is_listed_once(present) or not is_known(present, known) or not is_question(rules, question):
        return False
    if word == "sure":
        return len(parts) == 2 and _does_lead(rules, present, known, question, parts)
    return word == "open" and len(parts) == 1 and _are_closed(rules, present, known, question, parts[0])


def _rows_at(inventor, deeds, t):
    values = rows_by_names(deeds, t)
    return inventor.together([inventor.rows_of(values[key]) for key in values])


def _lacking(rows, others):
    """The rows that are none of the others, in order."""
    known = {row: True for row in others}
    return [row for row in rows if row not in known]


def _does_lead(rules, present, known, question, parts):
    """Whether any values are a base rule and a way that lead to a picture that answers."""
    chain = chain_of(rules, parts[0], parts[1])
    if chain is None or not is_present(chain[0], present):
        return False
    picture = base_picture(chain[0], known)
    for rule in chain[1:]:
        picture = picture_by(rule, picture[1])
    return does_answer(picture, question)


def _are_closed(rules, present, known, question, pictures):
    """Whether any value is a list or tuple of pictures that leads to no others, and has none that answers."""
    if not isinstance(pictures, (list, tuple)):
        return False
    if not all([is_picture(rules, present, known, picture) for picture in pictures]):
        return False
    told = {picture: True for picture in pictures}
    for rule in rules.all_rules():
        if is_base(rule) and is_present(rule, present) and base_picture(rule, known) not in told:
            return False
    for picture in pictures:
        if does_answer(picture, question):
            return False
        if not all([other in told for _, other in pictures_behind(rules, picture)]):
            return False
    return True
