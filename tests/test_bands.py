"""Promises 3, 4, 5, 10, 13 and 14: bands, and the plain strip."""

import unittest

from lackword.bands import Band, Plain
from lackword.errors import NoKinds, NoWord
from tests.helper import WRONG_THINGS, all_texts, check_own_list, lacking_by_definition, lacking_of, mixed_text

FORTY = mixed_text("abcd", 40)


class TestPlain(unittest.TestCase):
    def test_it_is_a_band_and_tells_letters_and_kinds(self):
        strip = Plain("abba", "abd")
        self.assertIsInstance(strip, Band)
        self.assertEqual(strip.text(), "abba")
        self.assertEqual(strip.kinds(), "abd")

    def test_no_letters_and_forty(self):
        for text in ("", "a", "a" * 40, FORTY):
            self.assertEqual(Plain(text, "abcd").text(), text)

    def test_one_kind_and_four(self):
        for kinds in ("z", "az", "abd", "wxyz"):
            self.assertEqual(Plain(kinds, kinds).kinds(), kinds)

    def test_kinds_are_refused(self):
        for thing in WRONG_THINGS + ["", "abcde", "ba", "aa"]:
            with self.subTest(thing=thing), self.assertRaises(NoKinds):
                Plain("", thing)

    def test_letters_are_refused_with_the_very_thing(self):
        for thing in WRONG_THINGS + ["c", "abc", "a" * 41, FORTY]:
            with self.subTest(thing=thing), self.assertRaises(NoWord) as caught:
                Plain(thing, "ab")
            self.assertIs(caught.exception.word, thing)

    def test_kinds_are_refused_ahead_of_letters(self):
        for thing in WRONG_THINGS + ["a" * 41, "zz"]:
            for kinds in (None, "", "ba", "abcde", ["a"], 3, True):
                with self.subTest(thing=thing, kinds=kinds), self.assertRaises(NoKinds):
                    Plain(thing, kinds)


class TestWords(unittest.TestCase):
    def test_all_short_strips(self):
        for text in all_texts("abd", 4):
            strip = Plain(text, "abd")
            for length in range(6):
                expected = [word for word in all_texts("abd", 4) if len(word) == length and word in text]
                self.assertEqual(strip.words(length), expected)

    def test_lengths_nought_and_sixty(self):
        for text in ("", "a", FORTY):
            strip = Plain(text, "abcd")
            self.assertEqual(strip.words(0), [""])
            self.assertEqual(strip.words(60), [])
            self.assertEqual(strip.words(len(text)), [text])
            self.assertEqual(strip.words(len(text) + 1), [])

    def test_each_word_once_and_in_order(self):
        self.assertEqual(Plain("babab", "ab").words(2), ["ab", "ba"])
        self.assertEqual(Plain("bab", "abc").words(1), ["a", "b"])

    def test_forty_letters(self):
        strip = Plain(FORTY, "abcd")
        for length in range(61):
            pieces = {FORTY[start:start + length] for start in range(41 - length)}
            self.assertEqual(strip.words(length), sorted(pieces))


class TestStands(unittest.TestCase):
    def test_all_short_strips_and_words(self):
        for text in all_texts("ab", 5):
            strip = Plain(text, "ab")
            for word in all_texts("ab", 6):
                place = text.find(word)
                self.assertIs(strip.stands(word), place >= 0)
                self.assertEqual(strip.place_of(word), None if place < 0 else place)

    def test_the_empty_word(self):
        for text in ("", "abab"):
            self.assertIs(Plain(text, "ab").stands(""), True)
            self.assertEqual(Plain(text, "ab").place_of(""), 0)

    def test_a_place_nought_is_a_place(self):
        self.assertIs(Plain("ab", "ab").stands("ab"), True)
        self.assertEqual(Plain("ab", "ab").place_of("ab"), 0)

    def test_the_first_of_several_places(self):
        self.assertEqual(Plain("babab", "ab").place_of("ab"), 1)
        self.assertEqual(Plain("a" * 40, "a").place_of("a" * 40), 0)

    def test_a_kind_that_the_strip_does_not_have(self):
        self.assertIs(Plain("ab", "abd").stands("d"), False)
        self.assertIsNone(Plain("ab", "abd").place_of("d"))

    def test_sixty_letters_and_sixty_one(self):
        strip = Plain("a" * 40, "a")
        for many in (41, 60):
            self.assertIs(strip.stands("a" * many), False)
            self.assertIsNone(strip.place_of("a" * many))
        for asked in (strip.stands, strip.place_of):
            with self.assertRaises(NoWord) as caught:
                asked("a" * 61)
            self.assertEqual(caught.exception.word, "a" * 61)

    def test_what_is_no_word_is_refused_with_the_very_thing(self):
        strip = Plain("abab", "ab")
        for thing in WRONG_THINGS + ["c", "abc", "ABAB", "b" * 61]:
            for asked in (strip.stands, strip.place_of):
                with self.subTest(thing=thing), self.assertRaises(NoWord) as caught:
                    asked(thing)
                self.assertIs(caught.exception.word, thing)

    def test_what_is_refused_changes_nothing(self):
        strip = Plain("abab", "ab")
        for thing in WRONG_THINGS:
            with self.assertRaises(NoWord):
                strip.stands(thing)
        self.assertEqual((strip.text(), strip.kinds()), ("abab", "ab"))
        self.assertEqual(strip.lacking(), lacking_by_definition("abab", "ab", 5))


class TestLacking(unittest.TestCase):
    def test_small_ones(self):
        self.assertEqual(Plain("abaab", "ab").lacking(), ["bb", "aaa", "bab", "aaba"])
        self.assertEqual(Plain("a", "ab").lacking(), ["b", "aa"])
        self.assertEqual(Plain("ba", "abd").lacking(), ["d", "aa", "ab", "bb"])

    def test_without_letters_all_kinds_are_missing(self):
        for kinds in ("a", "z", "abd", "wxyz"):
            self.assertEqual(Plain("", kinds).lacking(), list(kinds))

    def test_all_short_strips(self):
        for kinds, most in (("a", 8), ("ab", 7), ("abd", 4), ("wxyz", 3)):
            for text in all_texts(kinds, most):
                expected = lacking_by_definition(text, kinds, len(text) + 2)
                self.assertEqual(Plain(text, kinds).lacking(), expected, text)

    def test_forty_letters(self):
        self.assertEqual(Plain("a" * 40, "a").lacking(), ["a" * 41])
        self.assertEqual(Plain("a" * 40, "abcd").lacking(), ["b", "c", "d", "a" * 41])
        for text in (FORTY, FORTY[:20] * 2, "ab" * 20, "a" * 39 + "b"):
            self.assertEqual(Plain(text, "abcd").lacking(), lacking_of(text, "abcd"))

    def test_reach(self):
        for text in ("", "a", "abab", FORTY):
            strip = Plain(text, "abcd")
            self.assertEqual(strip.reach(), len(text) + 1)
            self.assertLessEqual(max(len(word) for word in strip.lacking()), strip.reach())


class TestListsTold(unittest.TestCase):
    def test_lists_are_new_ones_and_the_askers_own(self):
        strip = Plain("abba", "ab")
        for ask in (strip.lacking, lambda: strip.words(0), lambda: strip.words(2)):
            check_own_list(self, ask)

    def test_the_same_question_has_the_same_answer(self):
        strip = Plain(FORTY, "abcd")
        for _ in range(2):
            self.assertEqual(strip.lacking(), Plain(FORTY, "abcd").lacking())
            self.assertEqual(strip.words(3), Plain(FORTY, "abcd").words(3))
            self.assertEqual(strip.place_of(FORTY[7:]), 7)
            self.assertIs(strip.stands(FORTY[7:]), True)
