"""lostplaces.errors: [0.7]."""

import inspect
import unittest

from lostplaces import errors

WITHOUT = (
    "BadLetters BadNumber NoMember UnlikeBooks UnlikeWords BadModulus BadRest BadAmount NotPerfect "
    "NotOneOff NoNumber BadTotal NoSuchRun TooShort BadMark NotTold BadLetter NoSuchRow NothingDone"
).split()
WITH = {
    "BadWord": ["index"], "BadText": ["place"], "BadShape": ["index"], "BadLengths": ["index"],
    "TooMany": ["count"], "BadBook": ["what"], "BadMix": ["what"], "NotBorne": ["number"],
    "BadWeights": ["index"], "BadRow": ["index"], "BadLosses": ["index"], "BadBits": ["index"],
    "BadEdit": ["index", "what"], "BadGoal": ["index"],
}


class Errors(unittest.TestCase):
    def test_place_error_is_straight_under_value_error(self):
        self.assertEqual(errors.PlaceError.__bases__, (ValueError,))

    def test_all_are_straight_under_place_error(self):
        for name in WITHOUT + list(WITH):
            self.assertEqual(getattr(errors, name).__bases__, (errors.PlaceError,), name)

    def test_there_are_no_others(self):
        found = {name for name, _ in inspect.getmembers(errors, inspect.isclass)}
        self.assertEqual(found, set(WITHOUT) | set(WITH) | {"PlaceError"})

    def test_errors_without_attributes(self):
        for name in WITHOUT:
            self.assertEqual(vars(getattr(errors, name)()), {}, name)

    def test_attributes_in_order_and_unchecked(self):
        for name, attributes in WITH.items():
            values = [["anything"], None][:len(attributes)]
            error = getattr(errors, name)(*values)
            self.assertEqual(list(vars(error).items()), list(zip(attributes, values)), name)

    def test_attributes_by_name(self):
        error = errors.BadEdit(what="kind", index=3)
        self.assertEqual((error.index, error.what), (3, "kind"))


if __name__ == "__main__":
    unittest.main()
