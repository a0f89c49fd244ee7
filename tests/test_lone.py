"""Promises 60 to 63: lone words."""

import unittest

from lackword.bands import Plain
from lackword.errors import NoPlace
from lackword.lone import doubles, lone, lone_all
from tests.helper import NO_NUMBERS, all_texts, check_own_list, edge_texts, made, mixed_text


def both(text, kinds):
    return [Plain(text, kinds), made(text, kinds)]


def starts(text, word):
    return [at for at in range(len(text)) if text.startswith(word, at)]


def lone_by_definition(text, place):
    """All stretches over the place are looked at."""
    found = [
        (end - start, start) for start in range(place + 1) for end in range(place + 1, len(text) + 1)
        if len(starts(text, text[start:end])) == 1
    ]
    size, start = min(found)
    return (start, text[start:start + size])


def doubles_by_definition(text, place):
    size = len(lone_by_definition(text, place)[1]) - 1
    told = []
    for start in range(len(text)):
        end = start + size
        if start <= place < end <= len(text):
            told.append((start, min(at for at in starts(text, text[start:end]) if at != start)))
    return told


class TestLone(unittest.TestCase):
    def check(self, text, kinds):
        for strip in both(text, kinds):
            for place in range(len(text)):
                self.assertEqual(lone(strip, place), lone_by_definition(text, place), (text, place))
                self.assertEqual(doubles(strip, place), doubles_by_definition(text, place), (text, place))
            self.assertEqual(lone_all(strip), [lone_by_definition(text, place) for place in range(len(text))])

    def test_small_ones(self):
        for strip in both("abaab", "ab"):
            self.assertEqual(lone_all(strip), [(0, "aba"), (1, "ba"), (1, "ba"), (2, "aa"), (2, "aab")])
            self.assertEqual(doubles(strip, 0), [(0, 3)])
            self.assertEqual(doubles(strip, 2), [(2, 0)])
            self.assertEqual(doubles(strip, 4), [(3, 0)])

    def test_all_short_texts(self):
        for kinds, most in (("a", 6), ("ab", 7), ("abd", 5), ("wxyz", 3)):
            for text in all_texts(kinds, most):
                self.check(text, kinds)

    def test_edges(self):
        for text in edge_texts():
            self.check(text, "abcd")

    def test_one_letter_that_stands_once(self):
        for strip in both("aba", "ab"):
            self.assertEqual(lone(strip, 1), (1, "b"))
            self.assertEqual(doubles(strip, 1), [])

    def test_one_letter_alone(self):
        for strip in both("a", "a"):
            self.assertEqual((lone(strip, 0), doubles(strip, 0), lone_all(strip)), ((0, "a"), [], [(0, "a")]))

    def test_without_letters(self):
        for strip in both("", "ab"):
            self.assertEqual(lone_all(strip), [])

    def test_one_letter_repeated(self):
        for strip in both("a" * 40, "a"):
            self.assertEqual(lone_all(strip), [(0, "a" * 40)] * 40)
            self.assertEqual(doubles(strip, 0), [(0, 1)])
            self.assertEqual(doubles(strip, 20), [(0, 1), (1, 0)])

    def test_of_several_as_short_the_leftmost(self):
        for strip in both("abcacba", "abc"):
            self.assertEqual(lone(strip, 1), (0, "ab"))

    def test_a_strip_that_has_moved(self):
        strip = made("abaab", "ab")
        strip.drop()
        self.assertEqual(lone_all(strip), [lone_by_definition("baab", place) for place in range(4)])
        strip.back()
        self.assertEqual(lone_all(strip), [lone_by_definition("abaab", place) for place in range(5)])


class TestRefusals(unittest.TestCase):
    def test_what_is_no_place_is_refused_with_the_very_thing(self):
        for text in ("", "a", "abab", mixed_text("ab", 40)):
            for strip in both(text, "ab"):
                before = (strip.text(), strip.lacking())
                for thing in NO_NUMBERS + [len(text), len(text) + 1, 60]:
                    for asked in (lone, doubles):
                        with self.subTest(thing=thing), self.assertRaises(NoPlace) as caught:
                            asked(strip, thing)
                        self.assertIs(caught.exception.place, thing)
                self.assertEqual((strip.text(), strip.lacking()), before)


class TestListsTold(unittest.TestCase):
    def test_lists_are_new_ones_and_the_askers_own(self):
        for strip in both("abaab", "ab"):
            for ask in (lambda: lone_all(strip), lambda: doubles(strip, 0), lambda: doubles(strip, 2)):
                check_own_list(self, ask)
