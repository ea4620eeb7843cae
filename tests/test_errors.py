"""Point 5: the error classes."""

import unittest

from twopartings import errors

WITH_A_STRING = [
    "InvalidPersons", "InvalidPerson", "InvalidParting", "InvalidPartings", "InvalidComing", "InvalidPairs",
    "InvalidGroup", "InvalidGroups", "InvalidNode", "InvalidNumber", "InvalidIndex", "NoPerson", "Lacking",
    "NothingToUndo",
]
WITH_FIELDS = ["Crossing", "Refused", "InvalidText"]


class ErrorClasses(unittest.TestCase):

    def test_part_error_is_a_value_error(self):
        self.assertEqual(errors.PartError.__bases__, (ValueError,))

    def test_all_others_are_direct_subclasses(self):
        for name in WITH_A_STRING + WITH_FIELDS:
            with self.subTest(name):
                self.assertEqual(getattr(errors, name).__bases__, (errors.PartError,))

    def test_none_is_a_subclass_of_another_one(self):
        classes = [getattr(errors, name) for name in WITH_A_STRING + WITH_FIELDS]
        self.assertEqual(len(set(classes)), 17)
        for one in classes:
            for other in classes:
                self.assertEqual(issubclass(one, other), one is other)

    def test_each_is_defined_here_under_its_name(self):
        for name in ["PartError"] + WITH_A_STRING + WITH_FIELDS:
            self.assertEqual(getattr(errors, name).__module__, "twopartings.errors")
            self.assertEqual(getattr(errors, name).__name__, name)

    def test_made_with_one_string(self):
        for name in ["PartError"] + WITH_A_STRING:
            with self.subTest(name):
                self.assertEqual(str(getattr(errors, name)("what is wrong")), "what is wrong")

    def test_crossing_keeps_its_arguments(self):
        for error in (errors.Crossing(0, 2), errors.Crossing(second=2, first=0)):
            self.assertEqual((error.first, error.second), (0, 2))
            self.assertIsInstance(str(error), str)

    def test_refused_keeps_its_word(self):
        for error in (errors.Refused("full"), errors.Refused(word="full")):
            self.assertEqual(error.word, "full")
            self.assertIsInstance(str(error), str)

    def test_invalid_text_keeps_its_place(self):
        for error in (errors.InvalidText(3), errors.InvalidText(place=3)):
            self.assertEqual(error.place, 3)
            self.assertIsInstance(str(error), str)

    def test_all_can_be_raised_and_caught_as_part_error(self):
        made = [getattr(errors, name)("why") for name in WITH_A_STRING]
        for error in made + [errors.Crossing(0, 1), errors.Refused("full"), errors.InvalidText(0)]:
            with self.assertRaises(errors.PartError) as caught:
                raise error
            self.assertIs(caught.exception, error)


if __name__ == "__main__":
    unittest.main()
