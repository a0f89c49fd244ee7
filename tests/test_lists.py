"""Promises 70 and 74: lists of words, what avoids them, what shows that they belong to no strip."""

import copy
import itertools
import unittest

from lackword.errors import NoKinds, NoList
from lackword.lists import avoids, need_list, shows_endless, shows_inside, shows_long, shows_split
from tests.helper import WRONG_THINGS, all_texts, lacking_of, mixed_text

# Texts of which none is made of small letters alone.
OTHER_SIGNS = [" ", "a ", "A", "a1", "-", "~", "ab!", "a\nb", "\u00e4", "?" * 2100]
FOUR_LETTERS = [word for word in all_texts("abcd", 4) if len(word) == 4]


class TestNeedList(unittest.TestCase):
    def test_lists_are_let_pass(self):
        for words in ([], ["a"], ["b", "a"], ["a", "ab"], ["a" * 41], ["ab", "ba", "aab"], FOUR_LETTERS[:200]):
            kept = list(words)
            self.assertIsNone(need_list(words, "abcd"))
            self.assertEqual(words, kept)

    def test_what_is_no_list_of_at_most_200_things(self):
        things = [thing for thing in WRONG_THINGS if not isinstance(thing, list)]
        things += ["", "a", "ab", ("a", "b"), {"a": True}, FOUR_LETTERS[:201], ["a"] * 201, [None] * 201]
        for number, thing in enumerate(things):
            with self.subTest(number=number), self.assertRaises(NoList) as caught:
                need_list(thing, "abcd")
            self.assertIsNone(caught.exception.word)

    def test_the_first_thing_that_is_no_such_word(self):
        for thing in WRONG_THINGS + ["", "c", "abc", "a" * 42, "a" * 60]:
            for ahead, behind in (([], []), (["a", "b"], ["ab"]), (["ab"], ["ab", None]), ([], ["", 3])):
                with self.subTest(thing=thing), self.assertRaises(NoList) as caught:
                    need_list(ahead + [thing] + behind, "ab")
                self.assertIs(caught.exception.word, thing)

    def test_a_word_twice(self):
        for words, told in (
            (["a", "a"], "a"), (["ab", "b", "a", "b", "ab"], "b"), (["b", "b", None], "b"), (["b", 0, "b"], 0),
        ):
            with self.assertRaises(NoList) as caught:
                need_list(words, "ab")
            self.assertEqual(caught.exception.word, told)

    def test_a_word_of_one_and_of_41_letters(self):
        need_list(["a", "ab" * 20 + "a"], "ab")
        with self.assertRaises(NoList) as caught:
            need_list(["a", "ab" * 21, "b"], "ab")
        self.assertEqual(caught.exception.word, "ab" * 21)

    def test_200_things_of_which_one_is_none(self):
        with self.assertRaises(NoList) as caught:
            need_list(FOUR_LETTERS[:199] + [FOUR_LETTERS[7]], "abcd")
        self.assertEqual(caught.exception.word, FOUR_LETTERS[7])

    def test_kinds_go_first(self):
        for kinds in WRONG_THINGS + ["", "ba", "abcde"]:
            for words in (None, [], ["a", "a"], [""], FOUR_LETTERS):
                with self.subTest(kinds=kinds), self.assertRaises(NoKinds):
                    need_list(words, kinds)

    def test_what_is_handed_in_stays(self):
        things = copy.deepcopy(WRONG_THINGS)
        with self.assertRaises(NoList):
            need_list(things, "ab")
        self.assertEqual(things, WRONG_THINGS)


class TestAvoids(unittest.TestCase):
    def test_all_short_words(self):
        for words in itertools.combinations(list(all_texts("ab", 3))[1:], 2):
            for word in all_texts("ab", 5):
                self.assertIs(avoids(list(words), word), words[0] not in word and words[1] not in word)

    def test_the_empty_word_and_the_empty_list(self):
        self.assertIs(avoids(["a", "b"], ""), True)
        self.assertIs(avoids([], ""), True)
        self.assertIs(avoids([], "abab"), True)

    def test_any_list_and_any_text(self):
        self.assertIs(avoids(["b", "b", "a"], "ab"), False)
        self.assertIs(avoids(["zz"], "zyzyz"), True)
        self.assertIs(avoids(["a"], "?!-A"), True)
        self.assertIs(avoids(["a"], "?!-a"), False)
        self.assertIs(avoids(["ab" * 20], "ba" * 1050), False)
        self.assertIs(avoids(["aa"], "ba" * 1050), True)

    def test_the_list_handed_in_stays(self):
        words = ["b", "a", "b"]
        for _ in range(2):
            self.assertIs(avoids(words, "ab"), False)
        self.assertEqual(words, ["b", "a", "b"])


class TestShowsInside(unittest.TestCase):
    def test_all_short_words(self):
        words = ["aa", "a", "bab", "ba"]
        for one in all_texts("ab", 3):
            for other in all_texts("ab", 4):
                shown = one in words and other in words and one != other and one in other
                self.assertIs(shows_inside(words, one, other), shown)

    def test_small_ones(self):
        self.assertIs(shows_inside(["aba", "b"], "b", "aba"), True)
        self.assertIs(shows_inside(["aba", "b"], "aba", "b"), False)
        self.assertIs(shows_inside(["aba", "b"], "b", "b"), False)
        self.assertIs(shows_inside(["aba", "b"], "a", "aba"), False)
        self.assertIs(shows_inside(["aba", "b"], "b", "ab"), False)
        self.assertIs(shows_inside([], "", ""), False)
        self.assertIs(shows_inside(["a"], "", "a"), False)

    def test_other_texts(self):
        for text in OTHER_SIGNS + ["a" * 2100]:
            for other in OTHER_SIGNS + ["a", "b"]:
                self.assertIs(shows_inside(["a", "b"], text, other), False)
                self.assertIs(shows_inside(["a", "b"], other, text), False)


class TestShowsEndless(unittest.TestCase):
    def test_all_short_ones(self):
        for words in (["aa", "bb"], ["aab"], ["ababab"], ["baa", "bbb"], ["bbabb"], []):
            for head in all_texts("ab", 3):
                for lap in all_texts("ab", 4):
                    shown = lap != "" and not [word for word in words if word in head + lap * 60]
                    self.assertIs(shows_endless(words, "ab", head, lap), shown, (words, head, lap))

    def test_a_word_of_many_laps(self):
        for size in range(1, 42):
            self.assertIs(shows_endless(["a" * size], "ab", "", "a"), False)
            self.assertIs(shows_endless(["a" * size], "ab", "b", "aa"), False)
            self.assertIs(shows_endless(["b" + "a" * (size - 1) + "b"], "ab", "b", "a"), True)
            self.assertIs(shows_endless(["ab" * (size // 2) + "b"], "ab", "", "ab"), size >= 2)
        self.assertIs(shows_endless(["a" * 41], "ab", "", "a" * 40 + "b"), True)
        self.assertIs(shows_endless(["a" * 41], "ab", "a", "a" * 40 + "b"), False)
        self.assertIs(shows_endless(["a" * 41], "ab", "", "a" * 20 + "b" + "a" * 21), False)

    def test_the_longest_word_of_the_list_counts(self):
        for words in (["bb", "ab" * 20], ["ab" * 20, "bb"], ["bb", "ab" * 20, "aa"]):
            self.assertIs(shows_endless(words, "ab", "", "ab"), False)
            self.assertIs(shows_endless(words, "ab", "b", "ab"), False)
        self.assertIs(shows_endless(["bb", "ab" * 20 + "b"], "ab", "", "ab"), True)

    def test_long_heads_and_laps(self):
        self.assertIs(shows_endless(["aa"], "ab", "ab" * 1050, "b" * 2100), True)
        self.assertIs(shows_endless(["bbb"], "ab", "ab" * 1050, "ba" * 1050), True)
        self.assertIs(shows_endless(["bab"], "ab", "ab" * 1050, "a" * 2100), False)
        self.assertIs(shows_endless(["bb"], "ab", "a" * 2100, "b" + "a" * 2098 + "b"), False)
        self.assertIs(shows_endless(["bb"], "ab", "a" * 2100, "b" + "a" * 2099), True)

    def test_without_a_lap(self):
        for words in ([], ["a"]):
            self.assertIs(shows_endless(words, "ab", "", ""), False)
            self.assertIs(shows_endless(words, "ab", "b", ""), False)

    def test_the_empty_list(self):
        self.assertIs(shows_endless([], "a", "", "a"), True)
        self.assertIs(shows_endless([], "abcd", "ab", "dd"), True)

    def test_what_is_not_made_of_the_kinds(self):
        for text in OTHER_SIGNS + ["c", "abc"]:
            self.assertIs(shows_endless([], "ab", text, "a"), False)
            self.assertIs(shows_endless([], "ab", "", text), False)


class TestShowsLong(unittest.TestCase):
    def test_forty_letters_and_41(self):
        for words in ([], ["bb"], ["a" * 41]):
            self.assertIs(shows_long(words, "ab", "ab" * 20), False)
            self.assertIs(shows_long(words, "ab", "ab" * 20 + "a"), True)
            self.assertIs(shows_long(words, "ab", "ab" * 1050), True)
        self.assertIs(shows_long([], "ab", ""), False)

    def test_what_does_not_avoid_the_list(self):
        self.assertIs(shows_long(["bb"], "ab", "ab" * 30 + "b"), False)
        self.assertIs(shows_long(["a"], "ab", "b" * 50), True)
        self.assertIs(shows_long(["b"], "ab", "b" * 50), False)

    def test_what_is_not_made_of_the_kinds(self):
        for text in OTHER_SIGNS + ["c", "abc"]:
            self.assertIs(shows_long([], "ab", text), False)
            self.assertIs(shows_long([], "ab", "a" * 50 + text), False)


class TestShowsSplit(unittest.TestCase):
    def test_by_definition(self):
        asked = list(all_texts("abd", 3))
        for words in (
            ["aa", "bb", "ab", "ba", "d"], ["aa", "bb", "ba", "dd", "da", "db", "ad"], ["a", "b", "dd"],
            ["a", "b", "d"], ["aa", "ab", "b", "ad", "da", "ddd"], [], ["ab", "ba", "aaa", "bb", "d"],
        ):
            for one in asked:
                for other in asked:
                    self.assertIs(shows_split(words, "abd", one, other), self.shown(words, one, other))

    def shown(self, words, one, other):
        def free(text):
            return not [word for word in words if word in text]

        longer = [letter + one for letter in "abd"] + [one + letter for letter in "abd"]
        return free(one) and free(other) and other not in one and not [text for text in longer if free(text)]

    def test_small_ones(self):
        words = ["aa", "ab", "ba", "bb"]
        self.assertIs(shows_split(words, "ab", "a", "b"), True)
        self.assertIs(shows_split(words, "ab", "b", "a"), True)
        self.assertIs(shows_split(words, "ab", "a", ""), False)
        self.assertIs(shows_split(words, "ab", "", "a"), False)
        self.assertIs(shows_split(words, "ab", "a", "a"), False)
        self.assertIs(shows_split(["aa", "ab", "bb"], "ab", "a", "b"), False)

    def test_only_to_the_left_or_to_the_right_is_longer_too(self):
        words = ["aa", "ba", "bb", "d", "c"]
        self.assertIs(shows_split(words, "abcd", "b", "a"), False)
        self.assertIs(shows_split(words, "abcd", "a", "b"), False)
        self.assertIs(shows_split(words, "abcd", "ab", "c"), False)

    def test_long_texts(self):
        words = lacking_of(mixed_text("abcd", 40), "abcd")
        self.assertIs(shows_split(words, "abcd", mixed_text("abcd", 40), "a" * 2100), False)
        self.assertIs(shows_split(words, "abcd", "a" * 2100, "b"), False)

    def test_what_is_not_made_of_the_kinds(self):
        words = ["aa", "ab", "ba", "bb"]
        for text in OTHER_SIGNS + ["c", "abc"]:
            self.assertIs(shows_split(words, "ab", "a", text), False)
            self.assertIs(shows_split(words, "ab", text, "a"), False)

    def test_the_list_handed_in_stays(self):
        words = ["bb", "aa", "ba", "ab"]
        for _ in range(2):
            self.assertIs(shows_split(words, "ab", "a", "b"), True)
            self.assertIs(shows_inside(words, "a", "b"), False)
            self.assertIs(shows_endless(words, "ab", "", "a"), False)
            self.assertIs(shows_long(words, "ab", "a"), False)
        self.assertEqual(words, ["bb", "aa", "ba", "ab"])
