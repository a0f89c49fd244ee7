"""Promise 2: what a whole number is, where one within bounds is asked for."""

import unittest

from lackword.whole import is_within
from tests.helper import NO_NUMBERS


class TestIsWithin(unittest.TestCase):
    def test_the_bounds_belong_to_it(self):
        for number in range(-3, 8):
            self.assertIs(is_within(number, 0, 5), 0 <= number <= 5)
            self.assertIs(is_within(number, 1, 1), number == 1)
            self.assertIs(is_within(number, 1, 0), False)

    def test_truths_and_other_things_are_none(self):
        for thing in NO_NUMBERS:
            with self.subTest(thing=thing):
                self.assertIs(is_within(thing, 0, 40), False)
