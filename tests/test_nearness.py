"""Promises 91 and 92, and what 6 says of distances."""

import fractions
import itertools
import unittest

from lackword.bands import Plain
from lackword.errors import Unlike
from lackword.nearness import distance, reasons
from lackword.strips import Strip
from tests.helper import all_texts, check_own_list, edge_texts, lacking_of, made, mixed_text, moved_to, state

FORTY = mixed_text("abcd", 40)


def sorts(text, kinds):
    """All sorts of strips with these letters."""
    told = [Plain(text, kinds), made(text, kinds)]
    return told + [moved_to(text, kinds)] if len(text) < 40 else told


def expected_reasons(one, other, kinds):
    first, second = lacking_of(one, kinds), lacking_of(other, kinds)
    told = [(len(word), word, 0) for word in first if word not in second]
    told += [(len(word), word, 1) for word in second if word not in first]
    return [(word, which) for _, word, which in sorted(told)]


def expected_distance(one, other, kinds):
    words = set(lacking_of(one, kinds)) ^ set(lacking_of(other, kinds))
    return sum((fractions.Fraction(1, len(word) ** 2) for word in words), fractions.Fraction(0))


def share(told):
    return fractions.Fraction(told[0], told[1])


class TestSmallOnes(unittest.TestCase):
    def test_reasons(self):
        for one in sorts("abaab", "ab"):
            for other in sorts("aba", "ab"):
                self.assertEqual(reasons(one, other), [("aa", 1), ("aaa", 0), ("aaba", 0)])
                self.assertEqual(reasons(other, one), [("aa", 0), ("aaa", 1), ("aaba", 1)])

    def test_distance(self):
        for one in sorts("abaab", "ab"):
            for other in sorts("aba", "ab"):
                # 1/4, 1/9 and 1/16 together.
                self.assertEqual(distance(one, other), (61, 144))
                self.assertEqual(distance(other, one), (61, 144))

    def test_against_a_strip_without_letters(self):
        for bare in sorts("", "ab"):
            for strip in sorts("a", "ab"):
                self.assertEqual(reasons(bare, strip), [("a", 0), ("aa", 1)])
                self.assertEqual(reasons(strip, bare), [("a", 1), ("aa", 0)])
                self.assertEqual(distance(bare, strip), (5, 4))
            for twin in sorts("", "ab"):
                self.assertEqual(reasons(bare, twin), [])
                self.assertEqual(distance(bare, twin), (0, 1))

    def test_one_kind(self):
        for one, other in itertools.permutations(range(41), 2):
            strip, plain = Plain("a" * one, "a"), Plain("a" * other, "a")
            told = sorted([("a" * (one + 1), 0), ("a" * (other + 1), 1)])
            self.assertEqual(reasons(strip, plain), told)
            expected = fractions.Fraction(1, (one + 1) ** 2) + fractions.Fraction(1, (other + 1) ** 2)
            self.assertEqual(distance(strip, plain), (expected.numerator, expected.denominator))

    def test_a_whole_distance(self):
        one, other = Plain("a", "abc"), Plain("bc", "abc")
        told = [("a", 1), ("b", 0), ("c", 0), ("aa", 0), ("bb", 1), ("cb", 1), ("cc", 1)]
        self.assertEqual(reasons(one, other), told)
        self.assertEqual(distance(one, other), (4, 1))


class TestAgainstWordsMadeAnew(unittest.TestCase):
    def check(self, one, other):
        kinds = one.kinds()
        self.assertEqual(reasons(one, other), expected_reasons(one.text(), other.text(), kinds))
        expected = expected_distance(one.text(), other.text(), kinds)
        told = distance(one, other)
        self.assertIs(type(told), tuple)
        self.assertEqual(told, (expected.numerator, expected.denominator))

    def test_all_short_texts_in_any_mixture(self):
        for kinds, most in (("a", 4), ("ab", 3), ("abd", 2), ("wxyz", 1)):
            for one, other in itertools.product(all_texts(kinds, most), repeat=2):
                for first, second in itertools.product(sorts(one, kinds), sorts(other, kinds)):
                    self.check(first, second)

    def test_edges(self):
        for one, other in itertools.product(edge_texts(), repeat=2):
            self.check(Plain(one, "abcd"), made(other, "abcd"))

    def test_behind_every_deed(self):
        strip, still = Strip("abd"), Plain(mixed_text("abd", 12), "abd")
        for sign in "abdab--<ab-<<d--<-a<<b":
            if sign == "-":
                strip.drop()
            elif sign == "<":
                strip.back()
            else:
                strip.put(sign)
            self.check(strip, still)
            self.check(still, strip)
            self.check(strip, strip)


class TestWhatADistanceIs(unittest.TestCase):
    def test_nought_just_between_the_same_letters(self):
        for kinds, most in (("a", 6), ("ab", 4), ("wxyz", 2)):
            strips = [Plain(text, kinds) for text in all_texts(kinds, most)]
            for one, other in itertools.product(strips, repeat=2):
                told = distance(one, other)
                self.assertEqual(told == (0, 1), one.text() == other.text())
                self.assertEqual(told[0] == 0, one.text() == other.text())
                self.assertEqual(reasons(one, other) == [], one.text() == other.text())

    def test_nought_where_other_deeds_led_to_the_letters(self):
        turned_about = made("ab" + FORTY[:30] + "a", "abcd")
        turned_about.back()
        turned_about.drop()
        turned_about.drop()
        for strip in sorts(FORTY[:30], "abcd"):
            self.assertEqual(distance(turned_about, strip), (0, 1))
            self.assertEqual(reasons(strip, turned_about), [])

    def test_the_same_both_ways_and_never_shortened_by_a_way_round(self):
        for texts, kinds in (
            (list(all_texts("ab", 3)), "ab"), (list(all_texts("abd", 2)), "abd"), (edge_texts()[::2], "abcd"),
        ):
            strips = [made(text, kinds) for text in texts]
            apart = [[share(distance(one, other)) for other in strips] for one in strips]
            for one, other in itertools.product(range(len(strips)), repeat=2):
                self.assertEqual(apart[one][other], apart[other][one])
                for third in range(len(strips)):
                    self.assertLessEqual(apart[one][other], apart[one][third] + apart[third][other])


class TestRefusals(unittest.TestCase):
    def test_unlike_kinds(self):
        for first, second in (("ab", "abd"), ("a", "ab"), ("abd", "abc"), ("a", "b"), ("abcd", "wxyz")):
            for text in ("", "a" if "a" in first and "a" in second else ""):
                for one, other in itertools.product(sorts(text, first), sorts(text, second)):
                    for call in (reasons, distance):
                        with self.assertRaises(Unlike):
                            call(one, other)
                        with self.assertRaises(Unlike):
                            call(other, one)

    def test_kinds_of_their_own_text_are_the_same(self):
        self.assertEqual(distance(Plain("a", "ab"), Plain("a", "".join(["a", "b"]))), (0, 1))


class TestNothingChanges(unittest.TestCase):
    def test_strips_stay_as_they_are(self):
        one, other = made("abba", "ab"), moved_to("bab", "ab")
        before = (state(one), state(other))
        with self.assertRaises(Unlike):
            reasons(one, Strip("abd"))
        for _ in range(2):
            self.assertEqual(reasons(one, other), expected_reasons("abba", "bab", "ab"))
            distance(one, other)
        self.assertEqual((state(one), state(other)), before)

    def test_lists_are_new_ones_and_the_askers_own(self):
        one, other = made("abba", "ab"), Plain("bab", "ab")
        check_own_list(self, lambda: reasons(one, other))
        self.assertEqual((one.lacking(), other.lacking()), (lacking_of("abba", "ab"), lacking_of("bab", "ab")))
