"""Promises 2, 3 and 10: kinds and words."""

import copy
import itertools
import string
import unittest

from lackword.errors import NoKinds, NoWord
from lackword.kinds import is_kinds, is_letter, is_word, need_kinds, need_letter, need_word
from tests.helper import WRONG_THINGS, all_texts

# Texts that are words over some kinds, but tell no kinds.
NO_KINDS_TEXTS = ["", "aa", "ba", "aba", "abb", "zya", "abdc", "abcde", "vwxyz", "aabb", string.ascii_lowercase]


class TestIsKinds(unittest.TestCase):
    def test_all_rising_texts_of_one_to_four_small_letters(self):
        for many in (1, 2, 3, 4):
            for letters in itertools.combinations(string.ascii_lowercase, many):
                self.assertIs(is_kinds("".join(letters)), True)

    def test_just_the_rising_ones_of_some_letters(self):
        for text in all_texts("amyz", 5):
            rising = text == "".join(sorted(set(text)))
            self.assertIs(is_kinds(text), rising and 1 <= len(text) <= 4, text)

    def test_none_and_five_letters(self):
        for text in NO_KINDS_TEXTS:
            self.assertIs(is_kinds(text), False, text)

    def test_other_signs(self):
        for sign in [chr(number) for number in range(0x250)]:
            self.assertIs(is_kinds(sign), sign in string.ascii_lowercase, sign)
            self.assertIs(is_kinds("a" + sign), sign in "bcdefghijklmnopqrstuvwxyz", sign)

    def test_wrong_things(self):
        for thing in WRONG_THINGS:
            with self.subTest(thing=thing):
                self.assertIs(is_kinds(thing), False)


class TestNeedKinds(unittest.TestCase):
    def test_kinds_are_let_pass(self):
        for kinds in ("a", "z", "ab", "abd", "wxyz"):
            self.assertIsNone(need_kinds(kinds))

    def test_anything_else_is_refused(self):
        for thing in WRONG_THINGS + NO_KINDS_TEXTS:
            with self.subTest(thing=thing), self.assertRaises(NoKinds) as caught:
                need_kinds(thing)
            self.assertEqual(vars(caught.exception), {})
            self.assertTrue(str(caught.exception))


class TestIsWord(unittest.TestCase):
    def test_words_of_the_kinds(self):
        for kinds in ("a", "ab", "abd", "abyz"):
            for text in all_texts(kinds, 4):
                for most in range(6):
                    self.assertIs(is_word(text, kinds, most), len(text) <= most)

    def test_letters_of_other_kinds(self):
        for kinds in ("b", "ac", "abd"):
            for text in all_texts("abcd", 4):
                self.assertIs(is_word(text, kinds, 4), set(text) <= set(kinds))

    def test_the_empty_word(self):
        self.assertIs(is_word("", "a", 0), True)
        self.assertIs(is_word("", "abcd", 60), True)

    def test_greatest_numbers_of_letters(self):
        self.assertIs(is_word("a", "a", 0), False)
        for most in (40, 60):
            self.assertIs(is_word("ab" * (most // 2), "ab", most), True)
            self.assertIs(is_word("ab" * (most // 2) + "a", "ab", most), False)

    def test_one_wrong_sign_anywhere(self):
        for place in range(6):
            for sign in "cA1 -\n\u00e4":
                self.assertIs(is_word("ababa"[:place] + sign + "ababa"[place:], "ab", 60), False)

    def test_wrong_things(self):
        for thing in WRONG_THINGS:
            for kinds in ("a", "ab", "abcd"):
                with self.subTest(thing=thing, kinds=kinds):
                    self.assertIs(is_word(thing, kinds, 100), False)


class TestNeedWord(unittest.TestCase):
    def test_words_are_let_pass(self):
        self.assertIsNone(need_word("", "ab", 0))
        self.assertIsNone(need_word("abba", "ab", 4))

    def test_anything_else_is_refused_with_the_very_thing(self):
        for thing in WRONG_THINGS + ["abc", "abbaa"]:
            with self.subTest(thing=thing), self.assertRaises(NoWord) as caught:
                need_word(thing, "ab", 4)
            self.assertIs(caught.exception.word, thing)

    def test_letters_are_words_of_one_letter(self):
        for kinds in ("a", "abd"):
            for text in list(all_texts("abcd", 2)) + WRONG_THINGS:
                letter = isinstance(text, str) and len(text) == 1 and text in kinds
                self.assertIs(is_letter(text, kinds), letter)
                if letter:
                    self.assertIsNone(need_letter(text, kinds))
                    continue
                with self.subTest(text=text), self.assertRaises(NoWord) as caught:
                    need_letter(text, kinds)
                self.assertIs(caught.exception.word, text)

    def test_nothing_handed_in_is_changed(self):
        things = copy.deepcopy(WRONG_THINGS)
        for thing in things:
            is_kinds(thing)
            is_word(thing, "ab", 60)
            with self.assertRaises(NoKinds):
                need_kinds(thing)
            with self.assertRaises(NoWord):
                need_word(thing, "ab", 60)
        self.assertEqual(things, WRONG_THINGS)
