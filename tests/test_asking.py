"""Promises 50 to 52, and what 6 says of a word's place or missing word."""

import unittest

from lackword.asking import ask, first_place, how_often, last_place, oftenest
from lackword.bands import Plain
from lackword.errors import NoLength, NoWord
from lackword.lacking import inside, is_lacking
from lackword.strips import Strip
from tests.helper import NO_NUMBERS, WRONG_THINGS, all_texts, edge_texts, lacking_of, mixed_text, moved_to


def both(text, kinds):
    return [Plain(text, kinds), moved_to(text, kinds)]


class TestAsk(unittest.TestCase):
    def test_small_ones(self):
        for strip in both("abaab", "ab"):
            self.assertEqual(ask(strip, "aab"), ("there", 2))
            self.assertEqual(ask(strip, "ab"), ("there", 0))
            self.assertEqual(ask(strip, "bb"), ("lacks", "bb", 0))
            self.assertEqual(ask(strip, "ababb"), ("lacks", "bab", 1))
            self.assertEqual(ask(strip, ""), ("there", 0))

    def test_all_short_texts_and_words(self):
        for kinds, most in (("a", 5), ("ab", 5), ("abd", 3)):
            for text in all_texts(kinds, most):
                for word in all_texts(kinds, most + 1):
                    for strip in both(text, kinds):
                        self.check(strip, text, kinds, word)

    def check(self, strip, text, kinds, word):
        told = ask(strip, word)
        if word in text:
            self.assertEqual(told, ("there", text.index(word)))
            return
        self.assertEqual(told, ("lacks",) + inside(lacking_of(text, kinds), word))
        self.assertTrue(is_lacking(text, kinds, told[1]))
        self.assertEqual(word[told[2]:told[2] + len(told[1])], told[1])

    def test_edges(self):
        for text in edge_texts():
            asked = ["", "a", "aa", "abab", "d", "dd", text, (text + "a")[:60], (text + text + "b")[-60:], "a" * 60]
            asked += [mixed_text("abcd", 60), "ab" * 30, text[5:] + text[:5]] + lacking_of(text, "abcd")[:20]
            for strip in both(text, "abcd"):
                for word in asked:
                    self.check(strip, text, "abcd", word)

    def test_it_asks_the_strip_as_it_stands_now(self):
        strip = Strip("ab")
        self.assertEqual(ask(strip, "ba"), ("lacks", "b", 0))
        strip.put("b")
        self.assertEqual(ask(strip, "ba"), ("lacks", "a", 1))
        strip.put("a")
        self.assertEqual(ask(strip, "ba"), ("there", 0))
        strip.drop()
        self.assertEqual(ask(strip, "ba"), ("lacks", "b", 0))
        strip.back()
        self.assertEqual(ask(strip, "ba"), ("there", 0))


class TestHowOften(unittest.TestCase):
    def test_all_short_texts_and_words(self):
        for text in all_texts("ab", 6):
            for word in all_texts("ab", 4):
                found = [at for at in range(len(text) + 1) if text[at:at + len(word)] == word]
                found = [at for at in found if at + len(word) <= len(text)]
                for strip in both(text, "ab"):
                    self.assertEqual(how_often(strip, word), len(found))
                    self.assertEqual(first_place(strip, word), found[0] if found else None)
                    self.assertEqual(last_place(strip, word), found[-1] if found else None)

    def test_overlapping_places(self):
        for strip in both("a" * 40, "ab"):
            self.assertEqual(how_often(strip, "aaa"), 38)
            self.assertEqual((first_place(strip, "aaa"), last_place(strip, "aaa")), (0, 37))
            self.assertEqual((how_often(strip, "b"), first_place(strip, "b"), last_place(strip, "b")), (0, None, None))
        for strip in both("abababa", "ab"):
            self.assertEqual((how_often(strip, "aba"), first_place(strip, "aba"), last_place(strip, "aba")), (3, 0, 4))

    def test_the_empty_word(self):
        for text in ("", "a", "a" * 40):
            for strip in both(text, "a"):
                self.assertEqual(how_often(strip, ""), len(text) + 1)
                self.assertEqual((first_place(strip, ""), last_place(strip, "")), (0, len(text)))

    def test_sixty_letters(self):
        for strip in both("a" * 40, "a"):
            self.assertEqual(how_often(strip, "a" * 60), 0)
            self.assertIsNone(first_place(strip, "a" * 60))
            self.assertIsNone(last_place(strip, "a" * 60))


class TestRefusals(unittest.TestCase):
    def test_what_is_no_word_is_refused_with_the_very_thing(self):
        for strip in both("abab", "ab") + both("", "ab"):
            for thing in WRONG_THINGS + ["c", "abc", "a" * 61]:
                for asked in (ask, how_often, first_place, last_place):
                    with self.subTest(thing=thing), self.assertRaises(NoWord) as caught:
                        asked(strip, thing)
                    self.assertIs(caught.exception.word, thing)

    def test_what_is_no_length_is_refused_with_the_very_thing(self):
        for text in ("", "a", "abab", "a" * 40):
            for strip in both(text, "ab"):
                for thing in NO_NUMBERS + [0, len(text) + 1, 60]:
                    with self.subTest(thing=thing), self.assertRaises(NoLength) as caught:
                        oftenest(strip, thing)
                    self.assertIs(caught.exception.length, thing)

    def test_what_is_refused_changes_nothing(self):
        strip = moved_to("abab", "ab")
        before = (strip.text(), strip.lacking(), strip.deeds())
        for thing in WRONG_THINGS:
            with self.assertRaises(NoWord):
                ask(strip, thing)
        for thing in NO_NUMBERS:
            with self.assertRaises(NoLength):
                oftenest(strip, thing)
        self.assertEqual((strip.text(), strip.lacking(), strip.deeds()), before)


class TestOftenest(unittest.TestCase):
    def test_small_ones(self):
        for strip in both("babab", "ab"):
            self.assertEqual(oftenest(strip, 1), ("b", 3))
            self.assertEqual(oftenest(strip, 2), ("ab", 2))
            self.assertEqual(oftenest(strip, 3), ("bab", 2))
            self.assertEqual(oftenest(strip, 5), ("babab", 1))

    def test_where_several_stand_as_often_the_first_of_them(self):
        for strip in both("dcba", "abcd"):
            self.assertEqual(oftenest(strip, 1), ("a", 1))
            self.assertEqual(oftenest(strip, 2), ("ba", 1))

    def test_all_short_texts(self):
        for kinds, most in (("a", 6), ("ab", 7), ("abd", 4)):
            for text in all_texts(kinds, most):
                for length in range(1, len(text) + 1):
                    self.check(text, kinds, length)

    def check(self, text, kinds, length):
        times = {}
        for start in range(len(text) - length + 1):
            word = text[start:start + length]
            times[word] = times.get(word, 0) + 1
        most = max(times.values())
        expected = (min(word for word in times if times[word] == most), most)
        for strip in both(text, kinds):
            self.assertEqual(oftenest(strip, length), expected)

    def test_edges(self):
        for text in edge_texts():
            for length in range(1, len(text) + 1):
                self.check(text, "abcd", length)


class TestSameAnswer(unittest.TestCase):
    def test_asked_again(self):
        for strip in both("abaab", "ab"):
            for _ in range(2):
                self.assertEqual(ask(strip, "bab"), ("lacks", "bab", 0))
                self.assertEqual(how_often(strip, "ab"), 2)
                self.assertEqual(oftenest(strip, 2), ("ab", 2))
