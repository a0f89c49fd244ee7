"""Promises 30 to 33: missing words made anew, and the first of some words inside another one."""

import copy
import itertools
import unittest

from lackword.bands import Plain
from lackword.errors import NoKinds, NoWord
from lackword.lacking import inside, is_lacking, lacking
from lackword.places import in_order, places
from tests.helper import (
    WRONG_THINGS, all_texts, check_own_list, edge_texts, lacking_by_definition, lacking_of, mixed_text,
)

SHORT = [("a", 6), ("ab", 6), ("abd", 4), ("wxyz", 3)]


def inside_by_definition(words, word):
    """Every place of every word of the list is looked at."""
    found = [(place + len(piece), len(piece), piece, place) for piece in words for place in places(word, piece)]
    return min(found)[2:] if found else None


class TestLacking(unittest.TestCase):
    def check(self, text, kinds, words):
        told = lacking(text, kinds)
        self.assertEqual(told, [(word, text.index(word[:-1]), text.index(word[1:])) for word in words], text)
        self.assertLessEqual(len(told), len(kinds) * (len(text) + 1))
        for word, place, other in told:
            self.assertIs(type(place), int)
            self.assertLessEqual(len(word), len(text) + 1)
            self.assertFalse([piece for piece in words if piece in word and piece != word])

    def test_small_ones(self):
        self.assertEqual(lacking("abaab", "ab"), [("bb", 1, 1), ("aaa", 2, 2), ("bab", 1, 0), ("aaba", 2, 0)])
        self.assertEqual(lacking("", "abd"), [("a", 0, 0), ("b", 0, 0), ("d", 0, 0)])
        self.assertEqual(lacking("b", "ab"), [("a", 0, 0), ("bb", 0, 0)])

    def test_all_short_texts(self):
        for kinds, most in SHORT:
            for text in all_texts(kinds, most):
                self.check(text, kinds, lacking_by_definition(text, kinds, len(text) + 2))

    def test_edges(self):
        for text in edge_texts():
            self.check(text, "abcd", lacking_of(text, "abcd"))

    def test_the_most_there_can_be(self):
        self.assertEqual([told[0] for told in lacking("", "wxyz")], list("wxyz"))
        self.assertEqual(lacking("a" * 40, "a"), [("a" * 41, 0, 0)])

    def test_refusals(self):
        for kinds in WRONG_THINGS + ["", "ba", "abcde"]:
            for text in ("", None, "zz"):
                with self.subTest(kinds=kinds), self.assertRaises(NoKinds):
                    lacking(text, kinds)
        for thing in WRONG_THINGS + ["c", "a" * 41]:
            with self.subTest(thing=thing), self.assertRaises(NoWord) as caught:
                lacking(thing, "ab")
            self.assertIs(caught.exception.word, thing)

    def test_the_list_is_the_askers_own(self):
        check_own_list(self, lambda: lacking("abba", "ab"))


class TestIsLacking(unittest.TestCase):
    def test_all_short_texts_and_words(self):
        for kinds, most in [("a", 5), ("ab", 5), ("abd", 3)]:
            for text in all_texts(kinds, most):
                missing = lacking_by_definition(text, kinds, most + 1)
                for word in all_texts(kinds, most + 1):
                    self.assertIs(is_lacking(text, kinds, word), word in missing, (text, word))

    def test_edges(self):
        for text in edge_texts():
            missing = lacking_of(text, "abcd")
            for word in missing:
                self.assertIs(is_lacking(text, "abcd", word), True)
                self.assertIs(is_lacking(text, "abcd", word[1:]), False)
                for letter in "abcd":
                    self.assertIs(is_lacking(text, "abcd", word + letter), False)
                    self.assertIs(is_lacking(text, "abcd", letter + word), False)

    def test_the_empty_word_and_sixty_letters(self):
        for text in ("", "a", "a" * 40):
            self.assertIs(is_lacking(text, "a", ""), False)
            self.assertIs(is_lacking(text, "a", "a" * 60), False)
        self.assertIs(is_lacking("a" * 40, "a", "a" * 41), True)

    def test_refusals_in_their_order(self):
        for kinds in WRONG_THINGS + ["", "ba"]:
            with self.subTest(kinds=kinds), self.assertRaises(NoKinds):
                is_lacking(None, kinds, None)
        for thing in WRONG_THINGS + ["c", "a" * 41]:
            for word in ("a", "a" * 61, 5, "zz"):
                with self.subTest(thing=thing), self.assertRaises(NoWord) as caught:
                    is_lacking(thing, "ab", word)
                self.assertIs(caught.exception.word, thing)
        for thing in WRONG_THINGS + ["c", "a" * 61]:
            with self.subTest(thing=thing), self.assertRaises(NoWord) as caught:
                is_lacking("ab", "ab", thing)
            self.assertIs(caught.exception.word, thing)


class TestInside(unittest.TestCase):
    def test_it_ends_farthest_to_the_left(self):
        self.assertEqual(inside(["bb", "aab"], "abaabb"), ("aab", 2))
        self.assertEqual(inside(["b", "a"], "ab"), ("a", 0))
        self.assertEqual(inside(["aaaa", "ba"], "aaabaaaa"), ("ba", 3))
        self.assertIsNone(inside(["bb"], "abab"))

    def test_of_those_that_end_there_the_shortest(self):
        self.assertEqual(inside(["aab", "b", "ab"], "aaab"), ("b", 3))
        self.assertEqual(inside(["aab", "ab"], "aaab"), ("ab", 2))

    def test_the_empty_word(self):
        self.assertEqual(inside([""], ""), ("", 0))
        self.assertEqual(inside(["a", ""], "aaa"), ("", 0))
        self.assertIsNone(inside(["a"], ""))
        self.assertIsNone(inside([], ""))
        self.assertIsNone(inside([], "abab"))

    def test_lists_in_any_order_and_words_twice(self):
        pieces = ["a", "ba", "bba", "bb"]
        for words in itertools.permutations(pieces):
            for word in all_texts("ab", 5):
                expected = inside_by_definition(pieces, word)
                self.assertEqual(inside(list(words), word), expected)
                self.assertEqual(inside(list(words) + list(words)[::-1], word), expected)

    def test_all_short_words(self):
        pieces = list(all_texts("ab", 3))
        for words in itertools.combinations(pieces[1:], 2):
            for word in all_texts("ab", 5):
                self.assertEqual(inside(list(words), word), inside_by_definition(words, word))

    def test_sixty_letters(self):
        word = mixed_text("abcd", 60)
        self.assertEqual(inside(["a" * 60], "a" * 60), ("a" * 60, 0))
        for words in (["aa"], ["dcba", "abcd", "bbb"], [word[20:], word[7:50], word[3:55]], [word]):
            self.assertEqual(inside(words, word), inside_by_definition(words, word))

    def test_the_list_handed_in_stays(self):
        words = ["b", "ab", "b", "a"]
        kept = copy.copy(words)
        for _ in range(2):
            self.assertEqual(inside(words, "abab"), ("a", 0))
        self.assertEqual(words, kept)


class TestStandsJustWhereNoneIsInside(unittest.TestCase):
    def test_all_short_texts_and_words(self):
        for kinds, most in [("a", 4), ("ab", 5), ("abd", 3)]:
            for text in all_texts(kinds, most):
                missing = [told[0] for told in lacking(text, kinds)]
                for word in all_texts(kinds, most + 1):
                    self.assertEqual(inside(missing, word) is None, Plain(text, kinds).stands(word), (text, word))

    def test_no_two_strips_have_one_list(self):
        for kinds, most in [("a", 10), ("ab", 8), ("abd", 5), ("wxyz", 4)]:
            lists = {}
            for text in all_texts(kinds, most):
                told = tuple(word for word, place, other in lacking(text, kinds))
                self.assertEqual(list(told), in_order(told))
                self.assertNotIn(told, lists)
                lists[told] = text
