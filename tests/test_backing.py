"""Promises 71 to 73 and 75, and what 6 says of lists: from a list of words back to its strip."""

import copy
import itertools
import unittest

from lackword.backing import strip_of
from lackword.bands import Plain
from lackword.errors import Endless, Inside, NoKinds, NoList, Split, TooLong
from lackword.lists import shows_endless, shows_inside, shows_long, shows_split
from lackword.places import in_order
from lackword.rings import Ring
from lackword.strips import Strip
from tests.helper import WRONG_THINGS, all_texts, edge_texts, lacking_of, mixed_text

FORTY = mixed_text("abcd", 40)
LONGER = mixed_text("abcd", 60)


def lacking_of_all(texts, kinds):
    """The words that stand in none of the texts, while both shorter words stand in some of them."""
    pieces = {text[start:end] for text in texts for start in range(len(text)) for end in range(start, len(text) + 1)}
    longer = {piece + letter for piece in pieces for letter in kinds}
    return in_order([word for word in longer if word not in pieces and word[1:] in pieces])


def longest_avoiding(words, kinds):
    """How many letters the longest word has that avoids the list; None where there is no longest one."""
    begun = {word[:size] for word in words for size in range(len(word) + 1)} | {""}
    behind = {}

    def steps(tail):
        if tail not in behind:
            longer = [tail + letter for letter in kinds]
            longer = [text for text in longer if not any(word in text for word in words)]
            behind[tail] = [next(text[at:] for at in range(len(text) + 1) if text[at:] in begun) for text in longer]
        return behind[tail]

    level, count = {""}, 0
    while True:
        level = {tail for old in level for tail in steps(old)}
        if not level:
            return count
        count += 1
        if count > len(begun):
            return None


def due(words, kinds):
    """Which refusal is due, or None where the list belongs to a strip."""
    if any(one != other and one in other for one in words for other in words):
        return Inside
    longest = longest_avoiding(words, kinds)
    if longest is None:
        return Endless
    if longest > 40:
        return TooLong
    return Split


class Checked(unittest.TestCase):
    """What strip_of tells is checked against what it shows."""

    def told(self, words, kinds):
        kept = list(words)
        try:
            text = strip_of(words, kinds)
        except (Inside, Endless, TooLong, Split) as refusal:
            self.check_refusal(kept, kinds, refusal)
            self.assertEqual(words, kept)
            return type(refusal)
        self.assertEqual(words, kept)
        self.assertEqual(lacking_of(text, kinds), in_order(kept))
        self.assertLessEqual(len(text), 40)
        return text

    def check_refusal(self, words, kinds, refusal):
        self.assertIs(type(refusal), due(words, kinds), words)
        letters = sum(len(word) for word in words)
        if isinstance(refusal, Inside):
            self.assertIs(shows_inside(words, refusal.one, refusal.other), True)
        elif isinstance(refusal, Endless):
            self.assertIs(shows_endless(words, kinds, refusal.head, refusal.lap), True)
            self.assertLessEqual(len(refusal.head + refusal.lap), letters + 1)
        elif isinstance(refusal, TooLong):
            self.assertIs(shows_long(words, kinds, refusal.word), True)
            self.assertEqual(len(refusal.word), 41)
        else:
            self.assertIs(shows_split(words, kinds, refusal.one, refusal.other), True)


class TestBelongs(Checked):
    def test_all_short_strips(self):
        for kinds, most in (("a", 8), ("ab", 8), ("abd", 5), ("wxyz", 4)):
            for text in all_texts(kinds, most):
                self.assertEqual(strip_of(lacking_of(text, kinds), kinds), text)

    def test_edges(self):
        for text in edge_texts():
            self.assertEqual(self.told(lacking_of(text, "abcd"), "abcd"), text)

    def test_one_kind(self):
        for many in range(41):
            self.assertEqual(self.told(["a" * (many + 1)], "a"), "a" * many)

    def test_told_in_several_orders(self):
        words = lacking_of("abaab", "ab")
        for order in itertools.permutations(words):
            self.assertEqual(self.told(list(order), "ab"), "abaab")
        words = lacking_of(FORTY, "abcd")
        for order in (words[::-1], sorted(words), sorted(words, reverse=True), words[50:] + words[:50]):
            self.assertEqual(self.told(order, "abcd"), FORTY)

    def test_a_strip_that_moves_is_told_by_its_list(self):
        strip = Strip("abd")
        for letter in mixed_text("abd", 30):
            strip.put(letter)
            self.assertEqual(strip_of(strip.lacking(), "abd"), strip.text())
        for _ in range(25):
            strip.drop()
            self.assertEqual(strip_of(strip.lacking(), "abd"), strip.text())
        for _ in range(10):
            strip.back()
            self.assertEqual(strip_of(strip.lacking(), "abd"), strip.text())

    def test_small_ones(self):
        self.assertEqual(self.told(["aa"], "a"), "a")
        self.assertEqual(self.told(["aba", "bb", "aa"], "ab"), "bab")

    def test_other_kinds(self):
        self.assertEqual(self.told(["a", "b", "d"], "abd"), "")
        self.assertIs(self.told(["a", "b"], "abd"), Endless)
        self.assertEqual(self.told(["a", "b", "dd"], "abd"), "d")


class TestAllSmallLists(Checked):
    def check_all(self, kinds, most, least_many, most_many):
        pool = list(all_texts(kinds, most))[1:]
        strips = {}
        for text in all_texts(kinds, 8):
            strips[tuple(lacking_of(text, kinds))] = text
        for many in range(least_many, most_many + 1):
            for words in itertools.combinations(pool, many):
                told = self.told(list(words), kinds)
                expected = strips.get(words)
                if expected is not None:
                    self.assertEqual(told, expected)
                elif isinstance(told, str):
                    self.fail((words, told))

    def test_lists_over_one_kind(self):
        self.check_all("a", 6, 0, 6)

    def test_lists_over_two_kinds(self):
        self.check_all("ab", 3, 0, 5)

    def test_lists_over_three_kinds(self):
        self.check_all("abd", 2, 0, 6)

    def test_none_of_the_four_can_be_shown_of_a_list_that_belongs_to_a_strip(self):
        for text in ("", "a", "ab", "aab", "abaab"):
            words = lacking_of(text, "ab")
            asked = list(all_texts("ab", 5)) + words + ["ab" * 21, "a" * 41]
            for one in asked:
                self.assertIs(shows_long(words, "ab", one), False)
                for other in asked:
                    self.assertIs(shows_inside(words, one, other), False)
                    self.assertIs(shows_endless(words, "ab", one, other), False)
                    self.assertIs(shows_split(words, "ab", one, other), False)


class TestInside(Checked):
    def test_wherever_it_stands(self):
        for words in (["a", "ab"], ["ab", "b"], ["aab", "a"], ["bab", "b", "aa"], ["a" * 41, "a" * 40]):
            self.assertIs(self.told(words, "ab"), Inside)
            self.assertIs(self.told(words[::-1], "ab"), Inside)

    def test_it_goes_ahead_of_all_others(self):
        self.assertIs(self.told(["a", "ab"], "abd"), Inside)
        self.assertIs(self.told(lacking_of(LONGER, "abcd") + [LONGER[:41]], "abcd"), TooLong)
        words = lacking_of(LONGER, "abcd")
        self.assertIs(self.told(words + [words[-1] + "a"], "abcd"), Inside)
        self.assertIs(self.told(["aa", "ab", "ba", "bb", "aba"], "ab"), Inside)


class TestEndless(Checked):
    def test_the_empty_list(self):
        for kinds in ("a", "z", "abd", "wxyz"):
            self.assertIs(self.told([], kinds), Endless)

    def test_lists_of_rings(self):
        for text in ("a", "ab", "aab", "abcd", mixed_text("ab", 20), mixed_text("abcd", 20), "a" * 19 + "b"):
            words = Ring(text, "abcd").lacking()
            self.assertIs(self.told(words, "abcd"), Endless)
            with self.assertRaises(Endless) as caught:
                strip_of(words, "abcd")
            self.assertTrue(Ring(text, "abcd").stands((caught.exception.lap * 60)[:60]))

    def test_long_heads_and_laps(self):
        # What avoids these is a row of one kind, then of the next, and the last one without end.
        for size in (1, 5, 39):
            first = "a" * (size + 1)
            words = [first, "ba", "ca", "cb", "da", "db", "dc", "b" * (size + 2), "ac", "ad", "bd"]
            self.assertIs(self.told(words, "abcd"), Endless)
        words = lacking_of(FORTY, "abcd")
        self.assertIs(self.told([word for word in words if len(word) < max(map(len, words))], "abcd"), Endless)

    def test_short_laps_for_few_letters(self):
        self.assertIs(self.told(["b"], "ab"), Endless)
        self.assertIs(self.told(["aa", "bb"], "ab"), Endless)
        self.assertIs(self.told(["a" * 41, "b" * 41], "ab"), Endless)

    def test_two_hundred_words(self):
        four = [word for word in all_texts("abcd", 4) if len(word) == 4]
        self.assertIs(self.told(four[:200], "abcd"), Endless)
        self.assertIs(self.told(four[56:], "abcd"), Endless)
        ten = [mixed_text("abcd", 2010)[10 * at:10 * at + 10] for at in range(200)]
        self.assertIs(self.told(ten, "abcd"), Endless)

    def test_it_goes_ahead_of_too_long_and_split(self):
        self.assertIs(self.told(["b"], "ab"), Endless)
        self.assertIs(self.told(["ab", "ba"], "ab"), Endless)
        self.assertIs(self.told(["ab", "ba", "bbb"], "ab"), Endless)


class TestTooLong(Checked):
    def test_the_lists_of_longer_strips(self):
        for size in (41, 42, 50, 60):
            text = mixed_text("abcd", size)
            words = lacking_of(text, "abcd")
            self.assertIs(self.told(words, "abcd"), TooLong)
            with self.assertRaises(TooLong) as caught:
                strip_of(words, "abcd")
            self.assertIn(caught.exception.word, text)
        self.assertEqual(self.told(lacking_of(mixed_text("abcd", 40), "abcd"), "abcd"), mixed_text("abcd", 40))

    def test_one_letter_repeated_between_others(self):
        for one, other in ((20, 19), (20, 20), (21, 20), (40, 40)):
            text = "a" * one + "b" * other
            told = self.told(lacking_of(text, "ab"), "ab")
            self.assertEqual(told, text if len(text) <= 40 else TooLong)

    def test_it_goes_ahead_of_split(self):
        words = lacking_of_all(["a" * 30 + "b" * 30, "ba"], "ab")
        self.assertIs(self.told(words, "ab"), TooLong)
        words = lacking_of_all(["a" * 20 + "b" * 20, "ba"], "ab")
        self.assertIs(self.told(words, "ab"), Split)


class TestSplit(Checked):
    def test_small_ones(self):
        self.assertIs(self.told(["aa", "ab", "ba", "bb"], "ab"), Split)
        self.assertIs(self.told(["aa", "bb", "aba", "bab"], "ab"), Split)
        self.assertIs(self.told(["aaa", "ab", "ba", "bb"], "ab"), Split)
        self.assertIs(self.told(["aa", "ab", "ba", "bbb"], "ab"), Split)

    def test_the_words_of_two_strips(self):
        short = list(all_texts("abd", 3))
        for one, other in itertools.product(short[::3], short[::2]):
            words = lacking_of_all([one, other, "abd"], "abd")
            texts = [text for text in (one, other, "abd") if text]
            whole = [text for text in texts if all(piece in text for piece in texts)]
            told = self.told(words, "abd")
            if whole:
                self.assertEqual(told, whole[0])
            else:
                self.assertIn(told, (Split, Endless))

    def test_long_ones(self):
        for one, other in ((FORTY, "aaaa"), (FORTY, "dcbadcba"), (FORTY, LONGER[20:]), ("a" * 40, "b" * 40)):
            self.assertIn(self.told(lacking_of_all([one, other], "abcd"), "abcd"), (Split, TooLong, Endless))
        self.assertIs(self.told(["a" * 41, "b" * 41, "ab", "ba", "c", "d"], "abcd"), Split)


class TestListsChanged(Checked):
    def check(self, text, kinds, step):
        words = lacking_of(text, kinds)
        for at in range(0, len(words), step):
            rest = words[:at] + words[at + 1:]
            for others in [[]] + [[word] for word in self.near(words[at], kinds)]:
                changed = rest + [word for word in others if word not in rest and 1 <= len(word) <= 41]
                if changed != words:
                    told = self.told(changed, kinds)
                    self.assertEqual(told == text, in_order(changed) == words)
            for more in self.near(words[at], kinds):
                if more not in words and 1 <= len(more) <= 41:
                    self.assertIs(self.told(words + [more], kinds) == text, False)

    def near(self, word, kinds):
        letter = kinds[-1]
        return [word + letter, letter + word, word[1:], word[:-1], word[:-1] + letter, letter + word[1:], word[::-1]]

    def test_one_word_left_out_put_in_made_longer_or_shorter(self):
        for text in all_texts("ab", 5):
            self.check(text, "ab", 1)
        for text in ("", "d", "abd", "daab"):
            self.check(text, "abd", 1)

    def test_edges(self):
        for text in ("a" * 40, "ab" * 20, "a" * 20 + "b" * 20):
            self.check(text, "ab", 1)
        self.check(FORTY, "abcd", 29)
        self.check(mixed_text("ab", 40), "ab", 17)


class TestRefusals(unittest.TestCase):
    def test_kinds_go_first(self):
        for kinds in WRONG_THINGS + ["", "ba", "abcde"]:
            for words in (None, [], ["a", "ab"], [""], ["a"] * 201):
                with self.subTest(kinds=kinds), self.assertRaises(NoKinds):
                    strip_of(words, kinds)

    def test_what_is_no_list(self):
        four = [word for word in all_texts("abcd", 4) if len(word) == 4]
        for thing in [thing for thing in WRONG_THINGS if not isinstance(thing, list)] + ["ab", ("a", "b"), four[:201]]:
            with self.assertRaises(NoList) as caught:
                strip_of(thing, "abcd")
            self.assertIsNone(caught.exception.word)

    def test_things_in_it_that_are_no_words_go_ahead_of_all_that_follows(self):
        for thing in WRONG_THINGS + ["", "c", "a" * 42, "a", "ab"]:
            words = ["a", "ab", thing, "b", None]
            with self.subTest(thing=thing), self.assertRaises(NoList) as caught:
                strip_of(words, "ab")
            self.assertIs(caught.exception.word, thing)

    def test_what_is_handed_in_stays(self):
        things = copy.deepcopy(WRONG_THINGS)
        with self.assertRaises(NoList):
            strip_of(things, "ab")
        self.assertEqual(things, WRONG_THINGS)


class TestTheSameEachTime(unittest.TestCase):
    def fields(self, words, kinds):
        try:
            return strip_of(words, kinds)
        except (Inside, Endless, TooLong, Split) as refusal:
            return (type(refusal), vars(refusal))

    def test_asked_again_and_in_another_order(self):
        lists = [
            ["b", "ab", "aab", "ba"], ["aa", "bbb"], lacking_of(LONGER, "abcd"), ["aa", "ab", "ba", "bb"],
            lacking_of(FORTY, "abcd"), [],
        ]
        for words in lists:
            first = self.fields(words, "abcd" if len(words) > 4 else "ab")
            for again in (words, list(words), words[::-1], sorted(words)):
                self.assertEqual(self.fields(again, "abcd" if len(words) > 4 else "ab"), first)

    def test_a_list_changed_later_changes_nothing(self):
        strip = Plain("abaab", "ab")
        words = strip.lacking()
        self.assertEqual(strip_of(words, "ab"), "abaab")
        words.clear()
        with self.assertRaises(Endless):
            strip_of(words, "ab")
        self.assertEqual(strip_of(strip.lacking(), "ab"), "abaab")
