"""Promise 4: the refusals and their fields."""

import unittest

from lackword import errors
from tests.helper import ANY_THINGS

ONE_FIELD = {
    "NoWord": "word", "NoLength": "length", "NoPlace": "place", "NoRoom": "room", "NoRing": "thing",
    "NoList": "word", "TooLong": "word", "NoName": "name", "NameThere": "name",
}
TWO_FIELDS = {"Inside": ("one", "other"), "Split": ("one", "other"), "Endless": ("head", "lap")}
WITH_TEXT = ["NoKinds", "Full", "Bare", "NoBack", "Unlike", "NoLine"]
ALL = list(ONE_FIELD) + list(TWO_FIELDS) + WITH_TEXT


class TestErrors(unittest.TestCase):
    def test_lack_error_is_a_value_error(self):
        self.assertEqual(errors.LackError.__bases__, (ValueError,))

    def test_each_stands_straight_under_lack_error(self):
        for name in ALL:
            with self.subTest(name):
                self.assertEqual(getattr(errors, name).__bases__, (errors.LackError,))

    def test_no_two_are_one_class(self):
        self.assertEqual(len({getattr(errors, name) for name in ALL}), 18)

    def test_one_field_holds_the_very_thing(self):
        for name, field in ONE_FIELD.items():
            for number, thing in enumerate(ANY_THINGS):
                with self.subTest(name, number=number):
                    error = getattr(errors, name)(thing)
                    self.assertEqual(list(vars(error)), [field])
                    self.assertIs(getattr(error, field), thing)

    def test_two_fields_hold_the_very_things_in_the_order_told(self):
        for name, (first, second) in TWO_FIELDS.items():
            for number, (one, other) in enumerate(zip(ANY_THINGS, ANY_THINGS[1:] + ANY_THINGS[:1])):
                with self.subTest(name, number=number):
                    error = getattr(errors, name)(one, other)
                    self.assertEqual(sorted(vars(error)), sorted([first, second]))
                    self.assertIs(getattr(error, first), one)
                    self.assertIs(getattr(error, second), other)

    def test_made_with_a_text_without_fields(self):
        for name in WITH_TEXT:
            with self.subTest(name):
                error = getattr(errors, name)("why it is so")
                self.assertEqual(vars(error), {})
                self.assertEqual(str(error), "why it is so")

    def test_words_can_be_told_whatever_the_values(self):
        for number, thing in enumerate(ANY_THINGS):
            with self.subTest(number=number):
                for name in ONE_FIELD:
                    self.assertTrue(str(getattr(errors, name)(thing)))
                for name in TWO_FIELDS:
                    self.assertTrue(str(getattr(errors, name)(thing, thing)))

    def test_a_raised_one_is_taken_as_lack_error_and_as_value_error(self):
        with self.assertRaises(errors.LackError):
            raise errors.Inside("a", "ab")
        with self.assertRaises(ValueError):
            raise errors.Full("there are forty letters")
