"""Conditions made at random, the same for the same seed."""

from tests.reckon import NAMES


def some_test(rng, names, values):
    word = rng.choice(("row", "has", "eq", "less", "eq"))
    if word == "row":
        return (word,)
    if word == "has":
        return (word, rng.choice(names))
    return (word, rng.choice(names), rng.choice(values))


def some_parts(rng, word, many, within, names, values):
    """Parts with so many tests in all; an all has each guard once at most."""
    parts = []
    while many > 0 and len(parts) < 6:
        own = rng.randrange(1, many + 1)
        part = some_node(rng, own, within, names, values)
        if word == "all" and part[0] in ("row", "has") and part in parts:
            part = (rng.choice(("eq", "less")), rng.choice(names), rng.choice(values))
        parts.append(part)
        many -= own
    return tuple(parts)


def some_node(rng, many, within, names, values):
    if within == 0 or many == 1 and rng.random() < 0.7:
        return some_test(rng, names, values)
    word = rng.choice(("all", "all", "any", "any", "not"))
    if word == "not":
        return (word, some_node(rng, many, within - 1, names, values))
    return (word, some_parts(rng, word, many, within - 1, names, values))


def some_condition(rng, most=8):
    """A condition with up to so many tests."""
    names = rng.sample(NAMES[:3], rng.randrange(1, 4))
    values = rng.sample(range(100), rng.randrange(1, 4)) if rng.random() < 0.5 else [0, 1, 99][:rng.randrange(1, 4)]
    return some_node(rng, rng.randrange(1, most + 1), 3, names, values)


def some_guarded(rng, most=5):
    """A condition that can be guarded: an all with a row and has of its names, and more of up to so many tests."""
    names = rng.sample(NAMES[:3], rng.randrange(1, 3))
    values = rng.sample(range(100), rng.randrange(1, 4))
    guards = [("row",)] + [("has", name) for name in names]
    many = min(rng.randrange(1, most + 1), 8 - len(guards))
    rest = [part for part in some_parts(rng, "all", many, 2, names, values) if part not in guards]
    parts = guards + rest[:6 - len(guards)]
    rng.shuffle(parts)
    return ("all", tuple(parts))
