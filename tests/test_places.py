"""Promises 2, 4, 5, 11 and 12: places, stretches, the order of words."""

import unittest

from lackword.places import in_order, places, stretches
from tests.helper import all_texts, mixed_text


class TestPlaces(unittest.TestCase):
    def test_all_short_texts_and_words(self):
        for text in all_texts("ab", 6):
            for word in all_texts("ab", 4):
                expected = [
                    start for start in range(len(text) + 1)
                    if text.startswith(word, start) and start + len(word) <= len(text)
                ]
                self.assertEqual(places(text, word), expected, (text, word))

    def test_overlapping_places(self):
        self.assertEqual(places("aaaaa", "aa"), [0, 1, 2, 3])
        self.assertEqual(places("abababa", "aba"), [0, 2, 4])

    def test_the_empty_word_stands_at_one_place_more(self):
        self.assertEqual(places("abc", ""), [0, 1, 2, 3])
        self.assertEqual(places("", ""), [0])
        self.assertEqual(places("a" * 40, ""), list(range(41)))

    def test_a_text_without_letters(self):
        self.assertEqual(places("", "a"), [])

    def test_a_word_that_is_longer_than_the_text_or_the_text_itself(self):
        self.assertEqual(places("ab", "abc"), [])
        self.assertEqual(places("ab", "a" * 60), [])
        self.assertEqual(places("ab", "ab"), [0])

    def test_any_small_letters(self):
        self.assertEqual(places("lackword", "word"), [4])
        self.assertEqual(places("mississippi", "issi"), [1, 4])
        self.assertEqual(places("lackword", "words"), [])

    def test_the_list_is_the_askers_own(self):
        told = places("aaa", "a")
        told.append(9)
        self.assertEqual(places("aaa", "a"), [0, 1, 2])


class TestInOrder(unittest.TestCase):
    def test_fewer_letters_first_then_as_python_orders(self):
        self.assertEqual(in_order(["ba", "b", "ab", "", "aaa", "a"]), ["", "a", "b", "ab", "ba", "aaa"])
        self.assertEqual(in_order(["z", "aa"]), ["z", "aa"])
        self.assertEqual(in_order([]), [])
        self.assertEqual(in_order([""]), [""])

    def test_all_short_texts(self):
        expected = list(all_texts("abd", 4))
        self.assertEqual(in_order(expected), expected)
        self.assertEqual(in_order(expected[::-1]), expected)
        self.assertEqual(in_order(sorted(expected)), expected)

    def test_all_stretches_of_forty_letters(self):
        expected = stretches(mixed_text("abcd", 40))
        self.assertGreater(len(expected), 700)
        self.assertEqual(in_order(sorted(expected, reverse=True)), expected)

    def test_the_list_handed_in_stays_and_the_list_told_is_a_new_one(self):
        words = ["b", "a"]
        told = in_order(words)
        self.assertEqual(words, ["b", "a"])
        words.append("")
        self.assertEqual(told, ["a", "b"])
        already = ["a", "b"]
        in_order(already).append("c")
        self.assertEqual(already, ["a", "b"])


class TestStretches(unittest.TestCase):
    def test_all_short_texts(self):
        for text in all_texts("abd", 5):
            self.assertEqual(stretches(text), [word for word in all_texts("abd", 5) if word in text])

    def test_a_text_without_letters(self):
        self.assertEqual(stretches(""), [""])

    def test_small_ones(self):
        self.assertEqual(stretches("aba"), ["", "a", "b", "ab", "ba", "aba"])
        self.assertEqual(stretches("zy"), ["", "y", "z", "zy"])

    def test_forty_letters(self):
        self.assertEqual(stretches("a" * 40), ["a" * many for many in range(41)])
        text = mixed_text("abcd", 40)
        pieces = {text[start:end] for start in range(41) for end in range(start, 41)}
        self.assertEqual(stretches(text), sorted(pieces, key=lambda word: (len(word), word)))

    def test_the_list_is_the_askers_own(self):
        told = stretches("ab")
        told.clear()
        self.assertEqual(stretches("ab"), ["", "a", "b", "ab"])
