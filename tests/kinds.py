"""Values of many kinds, for what any value may be handed to, and a check of what is raised."""


class Odd:
    """An object that is equal to nothing, and that cannot be asked for anything."""

    def __eq__(self, other):
        raise AssertionError("asked whether it is equal")

    def __len__(self):
        raise AssertionError("asked for its length")

    def __iter__(self):
        raise AssertionError("iterated over")

    def __bool__(self):
        raise AssertionError("asked for its truth")

    __hash__ = None


class Yes:
    """An object that says that it is equal to all."""

    def __eq__(self, other):
        return True

    def __hash__(self):
        return 0


def odd_values():
    """Values that are no number, name, deed, past, lot, change or paper (a new list each time)."""
    return [
        None, True, False, 1.0, 0.0, 2.5, -1, 10 ** 30, "", "A", "abcde", "a b", "put", b"a", [], (), {}, [1], (1,),
        [1, "strike", 0], {1: 2}, set(), frozenset([1]), float("nan"), 1j, Odd(), Yes(), object(), len, int, (Odd(),),
        (Yes(), Yes()), (1, Yes(), 0), ("in", Odd()), ("out", Odd()), ("out", [1]), range(3), iter([]), slice(1, 2),
    ]


def raised(case, error, told, call, *args, **more):
    """Check that a call raises just this error, and that it tells this."""
    attribute = "most" if error.__name__ == "TooMany" else "told"
    try:
        call(*args, **more)
    except error as caught:
        case.assertIs(caught.__class__, error)
        value = getattr(caught, attribute)
        if value is not told:
            case.assertEqual((value.__class__, value), (told.__class__, told))
    else:
        case.fail(f"{error.__name__} was not raised")
