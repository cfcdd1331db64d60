"""The errors [10]."""

import unittest

from surehollows import errors
from surehollows.bounds import Bounds
from tests.helper import SomeObject, sample

ATTRIBUTES = {
    "InvalidHeight": ["value"], "InvalidName": ["value"], "InvalidBounds": ["low", "high"],
    "InvalidPlaces": ["value"], "InvalidTie": ["value"], "InvalidText": ["value"], "InvalidHeights": ["value"],
    "InvalidLevels": ["low", "high"], "InvalidDepth": ["value"], "InvalidPlan": ["value"], "InvalidLine": ["line"],
    "UnknownPlace": ["name"], "UnknownSheet": ["name"], "DuplicateName": ["name"], "TooLarge": ["count"],
    "OutOfBounds": ["name", "height"], "Contradiction": ["one", "other"], "Mismatch": ["name"],
    "NotBorder": ["name"], "NotBounds": ["value"], "NotChart": ["value"], "NotLand": ["value"],
    "NotSheet": ["value"], "NotForm": ["value"], "NoOutlet": ["name"], "NothingToUndo": [],
}


def any_values():
    return [
        None, True, False, 0, -5, 10 ** 29, "", "ab", "a\nb", [], [1, ["a"]], (), (1, (2,)), {}, {"a": {1: None}},
        Bounds(3, 5), sample(), errors.InvalidName("x"), SomeObject(),
    ]


class TestErrors(unittest.TestCase):

    def test_survey_error_is_directly_below_value_error(self):
        self.assertEqual(errors.SurveyError.__bases__, (ValueError,))
        self.assertEqual(str(errors.SurveyError("some words")), "some words")

    def test_every_error_is_directly_below_survey_error(self):
        for name in ATTRIBUTES:
            self.assertEqual(getattr(errors, name).__bases__, (errors.SurveyError,), name)
            self.assertEqual(getattr(errors, name).__module__, "surehollows.errors")

    def test_there_are_no_other_errors(self):
        classes = [name for name, value in vars(errors).items() if isinstance(value, type)]
        self.assertEqual(sorted(classes), sorted([*ATTRIBUTES, "SurveyError"]))

    def test_attributes_by_position(self):
        for name, attributes in ATTRIBUTES.items():
            for value in any_values():
                told = [value, [value]][:len(attributes)]
                error = getattr(errors, name)(*told)
                for attribute, given in zip(attributes, told):
                    self.assertIs(getattr(error, attribute), given, name)

    def test_attributes_by_name(self):
        for name, attributes in ATTRIBUTES.items():
            for value in any_values():
                told = dict(zip(attributes, [value, [value]]))
                error = getattr(errors, name)(**told)
                self.assertEqual(list(vars(error)), attributes, name)
                for attribute in attributes:
                    self.assertIs(getattr(error, attribute), told[attribute], name)

    def test_errors_take_what_the_interface_lists_and_no_more(self):
        for name, attributes in ATTRIBUTES.items():
            for count in range(4):
                if count != len(attributes):
                    with self.assertRaises(TypeError):
                        getattr(errors, name)(*["a"] * count)

    def test_every_error_can_be_raised_and_shown(self):
        for name, attributes in ATTRIBUTES.items():
            for value in any_values():
                with self.assertRaises(errors.SurveyError) as caught:
                    raise getattr(errors, name)(*[value] * len(attributes))
                self.assertNotEqual(str(caught.exception), "", name)


if __name__ == "__main__":
    unittest.main()
