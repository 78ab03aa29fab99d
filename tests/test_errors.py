"""All error classes: what they keep, and what they are."""

import unittest

from loghouse import errors
from loghouse.errors import HouseError
from tests.samples import any_values

WITH_PARAMETER = {
    "BadHouse": "part", "BadText": "line", "NoArrow": "index", "Beyond": "paper", "CannotDo": "deed",
    "NoTape": "thing", "NoPace": "paper", "NotTold": "paper", "Drifts": "paper", "BadReader": "part",
    "BadQuestion": "thing", "BadPolicy": "part", "BadTries": "tries",
}
WITHOUT = ("Unlike", "OtherPeople", "NothingToUndo", "NothingToRedo", "NoHouse", "InvalidCommand")


class Kept(unittest.TestCase):
    def test_parameter_by_position(self):
        for name, parameter in WITH_PARAMETER.items():
            for value in any_values():
                with self.subTest(name=name, value=value):
                    error = getattr(errors, name)(value)
                    self.assertIs(getattr(error, parameter), value)

    def test_parameter_by_name(self):
        for name, parameter in WITH_PARAMETER.items():
            for value in any_values():
                with self.subTest(name=name, value=value):
                    error = getattr(errors, name)(**{parameter: value})
                    self.assertIs(getattr(error, parameter), value)

    def test_value_is_not_changed(self):
        for name in WITH_PARAMETER:
            value = [1, {"a": [2, (3, [])]}]
            getattr(errors, name)(value)
            self.assertEqual(value, [1, {"a": [2, (3, [])]}])

    def test_two_errors_keep_their_own(self):
        for name, parameter in WITH_PARAMETER.items():
            with self.subTest(name=name):
                one, other = getattr(errors, name)("one"), getattr(errors, name)(**{parameter: ("other",)})
                third = getattr(errors, name)(None)
                self.assertEqual(getattr(one, parameter), "one")
                self.assertEqual(getattr(other, parameter), ("other",))
                self.assertIsNone(getattr(third, parameter))

    def test_raised_error_keeps_its_value(self):
        for name, parameter in WITH_PARAMETER.items():
            for value in any_values():
                with self.subTest(name=name, value=value):
                    with self.assertRaises(HouseError) as caught:
                        raise getattr(errors, name)(value)
                    self.assertIs(getattr(caught.exception, parameter), value)

    def test_error_within_an_error(self):
        for name, parameter in WITH_PARAMETER.items():
            inner = errors.BadHouse("people")
            error = getattr(errors, name)(inner)
            self.assertIs(getattr(error, parameter), inner)
            self.assertEqual(inner.part, "people")

    def test_without_parameter(self):
        for name in WITHOUT:
            with self.subTest(name=name):
                with self.assertRaises(getattr(errors, name)):
                    raise getattr(errors, name)()


class Bases(unittest.TestCase):
    def test_house_error(self):
        self.assertEqual(HouseError.__bases__, (Exception,))

    def test_one_base_class(self):
        for name in (*WITH_PARAMETER, *WITHOUT):
            with self.subTest(name=name):
                self.assertEqual(getattr(errors, name).__bases__, (HouseError,))

    def test_defined_here(self):
        for name in (*WITH_PARAMETER, *WITHOUT, "HouseError"):
            with self.subTest(name=name):
                self.assertEqual(getattr(errors, name).__module__, "loghouse.errors")
                self.assertEqual(getattr(errors, name).__name__, name)

    def test_all_are_unlike(self):
        classes = [getattr(errors, name) for name in (*WITH_PARAMETER, *WITHOUT, "HouseError")]
        self.assertEqual(len(set(classes)), 20)


if __name__ == "__main__":
    unittest.main()
