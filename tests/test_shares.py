"""Promise 90: fractions, their sums, and which is less."""

import fractions
import math
import unittest

from lackword.shares import below, fraction, plus

GREAT = 10 ** 100 + 267
HUGE = 7 ** 6000


def as_told(share):
    return (share.numerator, share.denominator)


def neighbours(many):
    """Two whole numbers whose common divisor takes as many steps as it can: each the sum of the two ahead."""
    one, other = 1, 1
    for _ in range(many):
        one, other = other, one + other
    return one, other


class TestFraction(unittest.TestCase):
    def check(self, top, bottom):
        told = fraction(top, bottom)
        self.assertIs(type(told), tuple)
        self.assertEqual([type(part) for part in told], [int, int])
        self.assertEqual(told[0] * bottom, top * told[1])
        self.assertGreaterEqual(told[1], 1)
        self.assertEqual(math.gcd(told[0], told[1]), 1)

    def test_small_ones(self):
        self.assertEqual(fraction(1, 2), (1, 2))
        self.assertEqual(fraction(6, 4), (3, 2))
        self.assertEqual(fraction(4, 6), (2, 3))
        self.assertEqual(fraction(8, 4), (2, 1))
        self.assertEqual(fraction(5, 5), (1, 1))
        self.assertEqual(fraction(1, 1), (1, 1))
        self.assertEqual(fraction(7, 1), (7, 1))

    def test_nought(self):
        for bottom in (1, 2, 7, 100, GREAT, HUGE):
            self.assertEqual(fraction(0, bottom), (0, 1))

    def test_all_of_small_numbers(self):
        for top in range(60):
            for bottom in range(1, 60):
                self.check(top, bottom)
                self.assertEqual(fraction(top, bottom), as_told(fractions.Fraction(top, bottom)))

    def test_one_fraction_told_by_other_parts(self):
        for times in (1, 2, 3, 12, GREAT, HUGE):
            self.assertEqual(fraction(3 * times, 7 * times), (3, 7))
            self.assertEqual(fraction(7 * times, 3 * times), (7, 3))
            self.assertEqual(fraction(times, times), (1, 1))

    def test_numbers_of_a_hundred_figures_and_more(self):
        greats = [10 ** 99, 10 ** 100, GREAT, 2 ** 400, 6 ** 150, math.factorial(80), HUGE, HUGE - 1, 10 ** 5000]
        for top in greats + [1, 6]:
            for bottom in greats + [1, 6]:
                self.check(top, bottom)
        self.assertEqual(fraction(10 ** 100, 10 ** 99), (10, 1))
        self.assertEqual(fraction(10 ** 100, 2 ** 100), (5 ** 100, 1))
        self.assertEqual(fraction(GREAT - 1, GREAT), (GREAT - 1, GREAT))

    def test_neighbours_that_have_no_common_divisor(self):
        one, other = neighbours(600)
        self.assertEqual(fraction(one, other), (one, other))
        self.assertEqual(fraction(one * 14, other * 14), (one, other))
        self.assertEqual(fraction(other * 14, one * 14), (other, one))


class TestPlus(unittest.TestCase):
    def test_small_ones(self):
        self.assertEqual(plus((1, 2), (1, 3)), (5, 6))
        self.assertEqual(plus((1, 2), (1, 2)), (1, 1))
        self.assertEqual(plus((1, 6), (1, 3)), (1, 2))
        self.assertEqual(plus((1, 4), (1, 4)), (1, 2))

    def test_all_of_small_parts(self):
        shares = sorted({fractions.Fraction(top, bottom) for top in range(8) for bottom in range(1, 9)})
        for one in shares:
            for other in shares:
                self.assertEqual(plus(as_told(one), as_told(other)), as_told(one + other))

    def test_nought_adds_nothing(self):
        self.assertEqual(plus((0, 1), (0, 1)), (0, 1))
        for share in ((3, 7), (7, 1), (GREAT, HUGE)):
            self.assertEqual(plus((0, 1), share), share)
            self.assertEqual(plus(share, (0, 1)), share)

    def test_many_and_great_ones(self):
        total, expected = (0, 1), fractions.Fraction(0)
        for length in range(1, 120):
            total = plus(total, (1, length ** 2))
            expected += fractions.Fraction(1, length ** 2)
            self.assertEqual(total, as_told(expected))
        self.assertEqual(plus((1, GREAT), (GREAT - 1, GREAT)), (1, 1))
        self.assertEqual(plus((1, 10 ** 100), (1, 10 ** 100)), (1, 5 * 10 ** 99))
        self.assertEqual(plus((HUGE, 1), (1, HUGE)), (HUGE ** 2 + 1, HUGE))

    def test_parts_that_are_not_the_lowest(self):
        self.assertEqual(plus((2, 4), (3, 6)), (1, 1))
        self.assertEqual(plus((0, 5), (2, 8)), (1, 4))


class TestBelow(unittest.TestCase):
    def test_all_of_small_parts(self):
        shares = sorted({fractions.Fraction(top, bottom) for top in range(8) for bottom in range(1, 9)})
        for one in shares:
            for other in shares:
                self.assertIs(below(as_told(one), as_told(other)), one < other)

    def test_nought(self):
        self.assertIs(below((0, 1), (0, 1)), False)
        self.assertIs(below((0, 1), (1, HUGE)), True)
        self.assertIs(below((1, HUGE), (0, 1)), False)

    def test_equal_ones_of_other_parts(self):
        for one, other in (((1, 2), (2, 4)), ((0, 1), (0, 9)), ((3, 1), (9, 3)), ((GREAT, 3), (GREAT * 7, 21))):
            self.assertIs(below(one, other), False)
            self.assertIs(below(other, one), False)

    def test_great_ones_that_are_hardly_unlike(self):
        # Their quotients are one and the same where figures are cut off.
        less, more = (GREAT - 1, GREAT), (GREAT, GREAT + 1)
        self.assertIs(below(less, more), True)
        self.assertIs(below(more, less), False)
        self.assertIs(below(less, less), False)
        self.assertIs(below((HUGE, HUGE + 1), (HUGE + 1, HUGE + 2)), True)
        self.assertIs(below((HUGE + 1, HUGE), (HUGE + 2, HUGE + 1)), False)


class TestNothingChanges(unittest.TestCase):
    def test_asked_again_the_answer_is_the_same(self):
        for _ in range(2):
            self.assertEqual(fraction(GREAT * 6, GREAT * 4), (3, 2))
            self.assertEqual(plus((1, 2), (1, 6)), (2, 3))
            self.assertIs(below((1, 3), (1, 2)), True)
