"""Albums: pictures of the rows that one row makes of which not all values are known."""

from plainstore.limits import is_number
from plainstore.makers import is_base, is_new


def album_of(rules, present, known):
    """The dict from the pictures, in order of coming, to the pairs (base rule, list of rules) that lead there."""
    ways = {}
    waiting = []
    for rule in rules.all_rules():
        if is_base(rule) and is_present(rule, present):
            picture = base_picture(rule, known)
            if picture not in ways:
                ways[picture] = (rule[0], [])
                waiting.append(picture)
    at = 0
    while at < len(waiting):
        picture = waiting[at]
        base, way = ways[picture]
        for name, other in pictures_behind(rules, picture):
            if other not in ways:
                ways[other] = (base, way + [name])
                waiting.append(other)
        at += 1
    return ways


def is_present(rule, present):
    """Whether all names of a base rule are columns."""
    return all([name in present for name in rule[1][1]])


def base_picture(rule, known):
    """The picture of the row that a base rule makes."""
    cells = [("value", known[name]) if name in known else ("column", name) for name in rule[1][1]]
    return picture_by(rule, cells)


def picture_by(rule, cells):
    """The picture of the row that a rule makes of these entries of a picture."""
    table, entries = rule[2]
    marks = {}
    told = []
    for entry in entries:
        # All that a head takes from its source is in what it makes anew, so that no new value is alike one of that.
        cell = entry if is_new(entry) else cells[entry]
        if cell[0] in ("new", "made"):
            marks[cell] = marks.get(cell, len(marks) + 1)
            cell = ("made", marks[cell])
        told.append(cell)
    return (table, tuple(told))


def pictures_behind(rules, picture):
    """The pairs (name of a rule, picture) of what the rules make of a row with this picture."""
    table, cells = picture
    told = []
    for rule in rules.all_rules():
        if not is_base(rule) and rule[1][0] == table:
            told.append((rule[0], picture_by(rule, cells)))
    return told


def does_answer(picture, question):
    """Whether a picture has the known values that are asked, and alike entries at alike marks."""
    table, cells = picture
    asked_table, asked_ones = question
    if table != asked_table:
        return False
    marks = {}
    for cell, entry in zip(cells, asked_ones):
        meant = ("value", entry) if is_number(entry) else marks.get(entry, cell)
        if cell != meant:
            return False
        if not is_number(entry):
            marks[entry] = cell
    return True
