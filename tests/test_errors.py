import unittest
from inspect import signature

from plainstore import errors
from tests.kinds import odd_values

NAMES = """NoDeed NoPast NoMoment NoKey NoName NoChange NoCount NoCopies NoLot NoVotes NoNeed NoEdit NoChances NoPage
NoWay NoMoves NoCondition NoPicture NoGuard NoCosts NoShares NoArrangement NoPlan NoRules NoKeys NoTold NoQuestion
NoWish NoSetting NoStore NoWalk NoMove NothingBack BadText NoLine""".split()


class Errors(unittest.TestCase):
    def test_each_is_directly_under_its_base(self):
        self.assertEqual(errors.StoreError.__bases__, (ValueError,))
        self.assertEqual(errors.TooMany.__bases__, (OverflowError,))
        self.assertEqual(len(NAMES), 35)
        for name in NAMES:
            error = getattr(errors, name)
            self.assertEqual(error.__bases__, (errors.StoreError,))
            self.assertEqual(error.__name__, name)
            self.assertEqual(error.__module__, "plainstore.errors")

    def test_none_is_under_another_one(self):
        classes = [getattr(errors, name) for name in NAMES] + [errors.TooMany]
        for one in classes:
            for other in classes:
                self.assertEqual(issubclass(one, other), one is other)

    def test_told_is_the_attribute_by_position_and_by_name(self):
        for name in NAMES:
            error = getattr(errors, name)
            for value in odd_values():
                self.assertIs(error(value).told, value)
                self.assertIs(error(told=value).told, value)

    def test_most_is_the_attribute_by_position_and_by_name(self):
        for value in odd_values():
            self.assertIs(errors.TooMany(value).most, value)
            self.assertIs(errors.TooMany(most=value).most, value)

    def test_each_is_made_of_one_argument(self):
        for name in NAMES + ["TooMany"]:
            error = getattr(errors, name)
            self.assertRaises(TypeError, error)
            self.assertRaises(TypeError, error, 1, 2)

    def test_each_has_in_its_own_body_how_it_is_made(self):
        for name in NAMES:
            made = vars(getattr(errors, name)).get("__init__")
            self.assertIsNotNone(made, name)
            self.assertEqual(list(signature(made).parameters), ["self", "told"], name)
        made = vars(errors.TooMany).get("__init__")
        self.assertEqual(list(signature(made).parameters), ["self", "most"])

    def test_each_can_be_raised_and_caught_by_its_base(self):
        for name in NAMES:
            with self.assertRaises(errors.StoreError) as caught:
                raise getattr(errors, name)(name)
            self.assertEqual(caught.exception.told, name)
        with self.assertRaises(OverflowError):
            raise errors.TooMany(60)
        self.assertFalse(issubclass(errors.TooMany, errors.StoreError))


if __name__ == "__main__":
    unittest.main()
