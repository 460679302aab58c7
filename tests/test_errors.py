"""The refusals (interface, falsesums/errors.py)."""

import unittest

from falsesums import errors

OF_A_TEXT = ["NoField", "NoNumber", "Unlike", "NoOrder", "NoFilling", "NoSums", "NoDegree", "NoSize", "NoWeights",
             "NoWorths", "NoShowing", "NoLeading", "NoLikeness", "NoWish", "TooMany", "NoRow"]
WITH_FIELDS = {"NoSum": ["number"], "NoText": ["row"], "NoSystem": ["part", "number"]}
UNDER_KEY_ERROR = {"NoWorth": ["product"], "NoName": ["name"]}


class Errors(unittest.TestCase):
    def test_false_error_is_straight_under_value_error(self):
        self.assertEqual(errors.FalseError.__bases__, (ValueError,))

    def test_each_refusal_is_straight_under_false_error(self):
        for name in OF_A_TEXT + list(WITH_FIELDS):
            with self.subTest(name=name):
                self.assertEqual(getattr(errors, name).__bases__, (errors.FalseError,))
                self.assertTrue(issubclass(getattr(errors, name), ValueError))

    def test_no_worth_and_no_name_are_under_key_error_alone(self):
        for name in UNDER_KEY_ERROR:
            with self.subTest(name=name):
                self.assertEqual(getattr(errors, name).__bases__, (KeyError,))
                self.assertFalse(issubclass(getattr(errors, name), errors.FalseError))

    def test_made_of_a_text(self):
        for name in OF_A_TEXT + ["FalseError"]:
            with self.subTest(name=name):
                self.assertEqual(str(getattr(errors, name)("some words")), "some words")

    def test_fields_by_place(self):
        for name, fields in list(WITH_FIELDS.items()) + list(UNDER_KEY_ERROR.items()):
            values = [("value", place) for place in range(len(fields))]
            made = getattr(errors, name)(*values)
            for field, value in zip(fields, values):
                with self.subTest(name=name, field=field):
                    self.assertEqual(getattr(made, field), value)

    def test_fields_by_name(self):
        for name, fields in list(WITH_FIELDS.items()) + list(UNDER_KEY_ERROR.items()):
            made = getattr(errors, name)(**{field: field + "!" for field in reversed(fields)})
            for field in fields:
                with self.subTest(name=name, field=field):
                    self.assertEqual(getattr(made, field), field + "!")

    def test_none_is_a_number_too(self):
        self.assertIsNone(errors.NoSum(None).number)
        self.assertIsNone(errors.NoSystem("field", None).number)

    def test_raised_and_caught_by_both_names(self):
        with self.assertRaises(errors.FalseError):
            raise errors.NoSystem("noughts", 3)
        with self.assertRaises(KeyError):
            raise errors.NoWorth((1, 2))


if __name__ == "__main__":
    unittest.main()
