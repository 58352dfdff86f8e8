import unittest
from itertools import permutations

from plainstore.deeds import in_order, is_alter, is_deed, is_name, key_of
from plainstore.errors import NoDeed
from tests.kinds import Yes, odd_values, raised

GOOD = [
    (1, "put", 0, ()), (999, "put", 9, (("a", 0),)), (5, "put", 3, (("b", 99), ("a", 1))),
    (5, "put", 3, (("a", 1), ("b", 1), ("c", 1), ("d", 1))), (1, "strike", 0), (999, "strike", 9),
    (1, "add", "a", 0), (999, "add", "abcd", 99), (7, "drop", "zzzz"), (7, "rename", "a", "b"), (7, "rename", "a", "a"),
]
BAD_NUMBERS = (True, False, None, "1", 1.0, [1], (1,))
NO_NAMES = (
    "", "abcde", "A", "aB", "a1", "a b", "a\n", " ", "-", "\u00e4", "\u0430", None, 1, True, b"a", ["a"], ("a",),
)


class Names(unittest.TestCase):
    def test_names(self):
        for value in ("a", "z", "ab", "abc", "zzzz", "put", "add"):
            self.assertIs(is_name(value), True)
        for value in NO_NAMES:
            self.assertIs(is_name(value), False)
        for letter in "abcdefghijklmnopqrstuvwxyz":
            self.assertIs(is_name(letter), True)
            self.assertIs(is_name(letter.upper()), False)

    def test_any_value(self):
        for value in odd_values():
            self.assertIs(is_name(value), isinstance(value, str) and value == "put")
        self.assertIs(is_name(value="a"), True)


class IsDeed(unittest.TestCase):
    def test_deeds(self):
        for deed in GOOD:
            self.assertIs(is_deed(deed), True, deed)
        self.assertIs(is_deed(value=GOOD[0]), True)

    def test_any_value(self):
        for value in odd_values():
            self.assertIs(is_deed(value), False)

    def test_any_value_in_any_place(self):
        for value in odd_values():
            if value.__class__ in (str, tuple) and value in ("put", ()):
                continue
            for deed in GOOD:
                for place in range(len(deed)):
                    self.assertIs(is_deed(deed[:place] + (value,) + deed[place + 1:]), False)

    def test_moments(self):
        for deed in GOOD:
            for moment in (1, 2, 998, 999):
                self.assertIs(is_deed((moment,) + deed[1:]), True)
            for moment in (0, -1, 1000, 10 ** 40) + BAD_NUMBERS:
                self.assertIs(is_deed((moment,) + deed[1:]), False)

    def test_keys(self):
        for key in range(10):
            self.assertIs(is_deed((1, "put", key, ())), True)
            self.assertIs(is_deed((1, "strike", key)), True)
        for key in (-1, 10, "a") + BAD_NUMBERS:
            self.assertIs(is_deed((1, "put", key, ())), False)
            self.assertIs(is_deed((1, "strike", key)), False)

    def test_values_and_fills(self):
        for value in (0, 1, 99):
            self.assertIs(is_deed((1, "add", "a", value)), True)
            self.assertIs(is_deed((1, "put", 0, (("a", value),))), True)
        for value in (-1, 100, "a") + BAD_NUMBERS:
            self.assertIs(is_deed((1, "add", "a", value)), False)
            self.assertIs(is_deed((1, "put", 0, (("a", value),))), False)

    def test_names(self):
        for name in NO_NAMES:
            for deed in ((1, "add", name, 0), (1, "drop", name), (1, "rename", name, "a"), (1, "rename", "a", name)):
                self.assertIs(is_deed(deed), False)
            self.assertIs(is_deed((1, "put", 0, ((name, 1),))), False)

    def test_words(self):
        for word in ("Put", "puts", "", "in", "out", "remove", None, 0, b"put", ("put",), ["put"], Yes()):
            self.assertIs(is_deed((1, word, 0, ())), False)
            self.assertIs(is_deed((1, word, 0)), False)
            self.assertIs(is_deed((1, word, "a", 0)), False)
            self.assertIs(is_deed((1, word, "a")), False)
            self.assertIs(is_deed((1, word, "a", "b")), False)

    def test_lengths(self):
        for deed in GOOD:
            self.assertIs(is_deed(deed[:-1]), False, deed[:-1])
            self.assertIs(is_deed(deed + (deed[-1],)), False)
            self.assertIs(is_deed(deed + ((),)), False)
            self.assertIs(is_deed(deed[1:]), False)
        self.assertIs(is_deed((1,)), False)
        self.assertIs(is_deed((1, "drop")), False)

    def test_parts_of_another_word(self):
        self.assertIs(is_deed((1, "strike", "a")), False)
        self.assertIs(is_deed((1, "drop", 0)), False)
        self.assertIs(is_deed((1, "add", "a", "b")), False)
        self.assertIs(is_deed((1, "rename", "a", 0)), False)
        self.assertIs(is_deed((1, "put", 0, 0)), False)

    def test_lists_in_the_place_of_tuples(self):
        for deed in GOOD:
            self.assertIs(is_deed(list(deed)), False)
        self.assertIs(is_deed((1, "put", 0, [])), False)
        self.assertIs(is_deed((1, "put", 0, [("a", 1)])), False)
        self.assertIs(is_deed((1, "put", 0, (["a", 1],))), False)
        self.assertIs(is_deed((1, "put", 0, {})), False)
        self.assertIs(is_deed((1, "put", 0, "")), False)

    def test_pairs(self):
        self.assertIs(is_deed((1, "put", 0, (("a", 1), ("a", 1)))), False)
        self.assertIs(is_deed((1, "put", 0, (("a", 1), ("b", 2), ("a", 3)))), False)
        four = tuple((name, 1) for name in "abcd")
        self.assertIs(is_deed((1, "put", 0, four)), True)
        self.assertIs(is_deed((1, "put", 0, four + (("e", 1),))), False)
        self.assertIs(is_deed((1, "put", 0, (("a", 1, 2),))), False)
        self.assertIs(is_deed((1, "put", 0, (("a",),))), False)
        self.assertIs(is_deed((1, "put", 0, ("a", 1))), False)
        self.assertIs(is_deed((1, "put", 0, ((1, "a"),))), False)
        for value in odd_values():
            self.assertIs(is_deed((1, "put", 0, (value,))), False)


class OfDeeds(unittest.TestCase):
    def test_is_alter(self):
        for deed in GOOD:
            self.assertIs(is_alter(deed), deed[1] in ("add", "drop", "rename"))
        self.assertIs(is_alter(deed=GOOD[0]), False)

    def test_key_of(self):
        for deed in GOOD:
            self.assertEqual(key_of(deed), deed[2] if deed[1] in ("put", "strike") else None)
        self.assertEqual(key_of(deed=(1, "strike", 4)), 4)
        self.assertEqual(key_of((1, "put", 0, ())), 0)

    def test_in_order(self):
        pairs = (("a", 9), ("aa", 1), ("b", 5), ("z", 0))
        for some in permutations(pairs):
            self.assertEqual(in_order((3, "put", 2, some)), (3, "put", 2, pairs))
        for deed in GOOD:
            if deed[1] != "put":
                self.assertEqual(in_order(deed), deed)
        self.assertEqual(in_order(deed=(1, "put", 0, (("b", 0), ("a", 1)))), (1, "put", 0, (("a", 1), ("b", 0))))
        self.assertEqual(in_order((1, "put", 0, ())), (1, "put", 0, ()))

    def test_no_deed(self):
        bad = odd_values() + [list(GOOD[0]), (0, "strike", 0), (1, "drop", "A"), (1, "put", 0, (("a", 1), ("a", 2)))]
        for call in (is_alter, key_of, in_order):
            for value in bad:
                raised(self, NoDeed, value, call, value)
            raised(self, NoDeed, (1, "add", "a", 100), call, deed=(1, "add", "a", 100))


if __name__ == "__main__":
    unittest.main()
