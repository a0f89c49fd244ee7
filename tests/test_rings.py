"""Promises 80 to 85, 50 for rings, and what 6 says of rings."""

import unittest

from lackword.asking import ask
from lackword.bands import Band
from lackword.errors import NoKinds, NoRing, NoWord, Unlike
from lackword.lacking import inside
from lackword.places import in_order
from lackword.rings import Ring, same
from tests.helper import WRONG_THINGS, all_texts, check_own_list, mixed_text

TWENTY = mixed_text("abcd", 20)
LARGE = ["a", "d", "a" * 20, "ab" * 10, "abcd" * 5, "aab" * 6, "a" * 19 + "b", TWENTY, TWENTY[:10] * 2, TWENTY[:19]]


def rolled(text):
    return text * (80 // len(text) + 2)


def place(text, word):
    found = rolled(text).find(word)
    return None if found < 0 else found


def pieces(text, length):
    return sorted({rolled(text)[start:start + length] for start in range(len(text))})


def lacking_ring(text, kinds):
    """The missing words with up to two letters more than the text."""
    found = []
    for length in range(1, len(text) + 3):
        shorter, standing = pieces(text, length - 1), pieces(text, length)
        longer = [head + letter for head in shorter for letter in kinds]
        found += [word for word in longer if word[1:] in shorter and word not in standing]
    return in_order(found)


def root_by_definition(text):
    return min((text[:size] for size in range(1, len(text) + 1)
                if len(text) % size == 0 and text[:size] * (len(text) // size) == text), key=len)


def short_rings(kinds, most):
    return [text for text in all_texts(kinds, most) if text]


class TestMade(unittest.TestCase):
    def test_it_is_a_band_and_tells_letters_and_kinds(self):
        for text in LARGE:
            ring = Ring(text, "abcd")
            self.assertIsInstance(ring, Band)
            self.assertEqual((ring.text(), ring.kinds()), (text, "abcd"))
        self.assertEqual(Ring("z", "z").kinds(), "z")

    def test_kinds_are_refused_first(self):
        for kinds in WRONG_THINGS + ["", "ba", "abcde"]:
            for text in ("a", "", None, "a" * 21):
                with self.subTest(kinds=kinds), self.assertRaises(NoKinds):
                    Ring(text, kinds)

    def test_what_is_no_text_of_a_ring_is_refused_with_the_very_thing(self):
        for thing in WRONG_THINGS + ["", "c", "abc", "a" * 21, "ab" * 30]:
            with self.subTest(thing=thing), self.assertRaises(NoRing) as caught:
                Ring(thing, "ab")
            self.assertIs(caught.exception.thing, thing)


class TestRoot(unittest.TestCase):
    def test_small_ones(self):
        for text, root in (("a", "a"), ("aaaa", "a"), ("abab", "ab"), ("aba", "aba"), ("abaaba", "aba"), ("b", "b")):
            self.assertEqual(Ring(text, "ab").root(), root)

    def test_all_short_rings_and_large_ones(self):
        for text in short_rings("ab", 9) + short_rings("abd", 5) + LARGE:
            ring = Ring(text, "abcd")
            self.assertEqual(ring.root(), root_by_definition(text), text)
            self.assertEqual(ring.reach(), len(ring.root()))

    def test_repeats_that_are_not_whole(self):
        self.assertEqual(Ring("ababa", "ab").root(), "ababa")
        self.assertEqual(Ring("ab" * 9 + "a", "ab").root(), "ab" * 9 + "a")

    def test_just_the_same_words_stand_in_the_root(self):
        for text in LARGE:
            ring = Ring(text, "abcd")
            root = Ring(ring.root(), "abcd")
            self.assertEqual(root.root(), ring.root())
            for length in range(0, 61, 4):
                self.assertEqual(root.words(length), ring.words(length))


class TestTurned(unittest.TestCase):
    def test_small_ones(self):
        ring = Ring("abdd", "abd")
        for by, text in ((0, "abdd"), (1, "bdda"), (-1, "dabd"), (4, "abdd"), (6, "ddab"), (-5, "dabd")):
            self.assertEqual(ring.turned(by).text(), text)
        self.assertEqual((ring.text(), ring.kinds()), ("abdd", "abd"))

    def test_it_is_a_ring_of_the_same_kinds_and_words(self):
        for text in LARGE:
            ring = Ring(text, "abcd")
            for by in (0, 1, -1, 7, -13, len(text)):
                turned = ring.turned(by)
                self.assertIsInstance(turned, Ring)
                self.assertEqual(turned.kinds(), "abcd")
                self.assertEqual(turned.lacking(), ring.lacking())
                self.assertEqual(turned.words(25), ring.words(25))
                self.assertEqual(turned.turned(-by).text(), text)
            self.assertEqual(ring.text(), text)

    def test_one_by_one(self):
        for text in LARGE:
            right = left = text
            for by in range(45):
                self.assertEqual(Ring(text, "abcd").turned(by).text(), right)
                self.assertEqual(Ring(text, "abcd").turned(-by).text(), left)
                right = right[1:] + right[0]
                left = left[-1] + left[:-1]

    def test_numbers_of_many_figures(self):
        for text in LARGE:
            ring = Ring(text, "abcd")
            for by in (10 ** 99, -(10 ** 99), 10 ** 99 + 3, -(10 ** 99) - 3, 7 ** 6000, -(7 ** 6000)):
                start = by % len(text)
                self.assertEqual(ring.turned(by).text(), rolled(text)[start:start + len(text)])


class TestWords(unittest.TestCase):
    def test_all_short_rings_and_words(self):
        for text in short_rings("ab", 5):
            ring = Ring(text, "ab")
            for word in all_texts("ab", 7):
                self.assertEqual(ring.place_of(word), place(text, word), (text, word))
                self.assertIs(ring.stands(word), place(text, word) is not None)
            for length in range(12):
                self.assertEqual(ring.words(length), pieces(text, length))

    def test_large_rings(self):
        for text in LARGE:
            ring = Ring(text, "abcd")
            for length in range(61):
                self.assertEqual(ring.words(length), pieces(text, length))
                for start in range(0, len(text), 3):
                    word = rolled(text)[start:start + length]
                    self.assertEqual(ring.place_of(word), place(text, word))
                    self.assertLess(ring.place_of(word), len(text))
                    self.assertIs(ring.stands(word), True)
                    if length > 0:
                        other = word[:-1] + ("a" if word[-1] != "a" else "b")
                        self.assertEqual(ring.place_of(other), place(text, other))
                        self.assertIs(ring.stands(other), place(text, other) is not None)

    def test_the_empty_word(self):
        for text in LARGE:
            ring = Ring(text, "abcd")
            self.assertEqual((ring.place_of(""), ring.stands(""), ring.words(0)), (0, True, [""]))

    def test_the_last_place(self):
        self.assertEqual(Ring("abb", "ab").place_of("ba"), 2)
        self.assertEqual(Ring("abb", "ab").place_of("bab"), 2)
        self.assertEqual(Ring("a" * 19 + "b", "ab").place_of("b" + "a" * 19 + "b"), 19)

    def test_words_longer_than_the_ring(self):
        ring = Ring("ab", "ab")
        self.assertEqual(ring.words(60), ["ab" * 30, "ba" * 30])
        self.assertEqual((ring.place_of("ba" * 30), ring.place_of("ab" * 29 + "aa")), (1, None))
        self.assertEqual(Ring("a", "a").words(60), ["a" * 60])

    def test_what_is_no_word_is_refused_with_the_very_thing(self):
        ring = Ring("abab", "ab")
        for thing in WRONG_THINGS + ["c", "abc", "a" * 61, "ab" * 31]:
            for asked in (ring.stands, ring.place_of, lambda word: ask(ring, word)):
                with self.subTest(thing=thing), self.assertRaises(NoWord) as caught:
                    asked(thing)
                self.assertIs(caught.exception.word, thing)
        self.assertEqual((ring.text(), ring.kinds(), ring.lacking()), ("abab", "ab", ["aa", "bb"]))


class TestLacking(unittest.TestCase):
    def test_small_ones(self):
        self.assertEqual(Ring("ab", "ab").lacking(), ["aa", "bb"])
        self.assertEqual(Ring("aab", "ab").lacking(), ["bb", "aaa", "bab"])
        self.assertEqual(Ring("b", "abd").lacking(), ["a", "d"])

    def test_one_kind(self):
        for many in range(1, 21):
            self.assertEqual(Ring("a" * many, "a").lacking(), [])

    def test_all_short_rings_and_large_ones(self):
        for kinds, most in (("ab", 7), ("abd", 5), ("wxyz", 4)):
            for text in short_rings(kinds, most):
                self.check(text, kinds)
        for text in LARGE:
            self.check(text, "abcd")

    def check(self, text, kinds):
        ring = Ring(text, kinds)
        told = ring.lacking()
        self.assertEqual(told, lacking_ring(text, kinds), text)
        self.assertLessEqual(max([len(word) for word in told], default=0), len(ring.root()))
        self.assertLessEqual(len(told), len(ring.root()) * len(kinds))

    def test_a_word_stands_just_where_none_is_inside(self):
        for text in short_rings("ab", 5):
            ring = Ring(text, "ab")
            for word in all_texts("ab", 8):
                self.assertEqual(inside(ring.lacking(), word) is None, ring.stands(word))


class TestAsk(unittest.TestCase):
    def test_small_ones(self):
        ring = Ring("aab", "ab")
        self.assertEqual(ask(ring, "baab"), ("there", 2))
        self.assertEqual(ask(ring, ""), ("there", 0))
        self.assertEqual(ask(ring, "aabb"), ("lacks", "bb", 2))
        self.assertEqual(ask(ring, "abaaab"), ("lacks", "aaa", 2))

    def test_all_short_rings_and_large_ones(self):
        for text in short_rings("ab", 4):
            for word in all_texts("ab", 6):
                self.check(text, "ab", word)
        for text in LARGE:
            for word in ("", "a" * 60, "ab" * 30, TWENTY * 3, text, rolled(text)[3:63], rolled(text)[:59] + "d"):
                self.check(text, "abcd", word)

    def check(self, text, kinds, word):
        told = ask(Ring(text, kinds), word)
        if place(text, word) is not None:
            self.assertEqual(told, ("there", place(text, word)))
        else:
            self.assertEqual(told, ("lacks",) + inside(lacking_ring(text, kinds), word))


class TestSame(unittest.TestCase):
    def test_small_ones(self):
        self.assertEqual(same(Ring("ab", "ab"), Ring("ba", "ab")), ("same", "ab", 1))
        self.assertEqual(same(Ring("abab", "ab"), Ring("bababa", "ab")), ("same", "ab", 1))
        self.assertEqual(same(Ring("aab", "ab"), Ring("baabaa", "ab")), ("same", "aab", 2))
        self.assertEqual(same(Ring("a", "ab"), Ring("b", "ab")), ("unlike", "a"))
        self.assertEqual(same(Ring("ab", "ab"), Ring("aab", "ab")), ("unlike", "aa"))
        self.assertEqual(same(Ring("aab", "ab"), Ring("ab", "ab")), ("unlike", "aa"))

    def test_all_pairs_of_short_rings(self):
        for kinds, most in (("a", 6), ("ab", 5), ("abd", 3)):
            rings = short_rings(kinds, most)
            standing = {}
            for text in rings:
                standing[text] = {word for length in range(1, 11) for word in pieces(text, length)}
            for one in rings:
                for other in rings:
                    self.check(one, other, kinds, standing)

    def check(self, one, other, kinds, standing):
        told = same(Ring(one, kinds), Ring(other, kinds))
        unlike = standing[one] ^ standing[other]
        lists_alike = Ring(one, kinds).lacking() == Ring(other, kinds).lacking()
        self.assertEqual(lists_alike, not unlike)
        if unlike:
            self.assertEqual(told, ("unlike", in_order(unlike)[0]))
            return
        root, wanted = root_by_definition(one), root_by_definition(other)
        turns = [turn for turn in range(len(root)) if root[turn:] + root[:turn] == wanted]
        self.assertEqual(told, ("same", root, turns[0]))

    def test_one_is_the_other_turned_and_repeated(self):
        for root in ("a", "ab", "aabab", TWENTY[:6], TWENTY[:10], "a" * 9 + "b"):
            for turn in range(len(root)):
                turned = root[turn:] + root[:turn]
                for one in range(1, 20 // len(root) + 1):
                    ring = Ring(root * one, "abcd")
                    self.assertEqual(same(ring, Ring(turned * 2, "abcd")), ("same", root, turn))
        self.assertEqual(same(Ring(TWENTY, "abcd"), Ring(TWENTY, "abcd").turned(-1)), ("same", TWENTY, 19))
        self.assertEqual(same(Ring(TWENTY, "abcd"), Ring(TWENTY, "abcd")), ("same", TWENTY, 0))

    def test_a_long_word_parts_them(self):
        self.assertEqual(same(Ring("a" * 19 + "b", "ab"), Ring("a" * 18 + "b", "ab")), ("unlike", "a" * 19))
        self.assertEqual(same(Ring("a" * 19 + "b", "ab"), Ring("a" * 20, "ab")), ("unlike", "b"))
        one, other = "ab" * 9 + "aa", "ab" * 9 + "a"
        told = same(Ring(one, "ab"), Ring(other, "ab"))
        unlike = set().union(*(set(pieces(one, size)) ^ set(pieces(other, size)) for size in range(1, 21)))
        self.assertEqual(told, ("unlike", in_order(unlike)[0]))

    def test_of_several_as_short_the_first(self):
        self.assertEqual(same(Ring("ab", "abcd"), Ring("cd", "abcd")), ("unlike", "a"))
        self.assertEqual(same(Ring("cd", "abcd"), Ring("ab", "abcd")), ("unlike", "a"))
        self.assertEqual(same(Ring("bd", "abcd"), Ring("bc", "abcd")), ("unlike", "c"))

    def test_unlike_kinds_are_refused(self):
        for one, other in (("ab", "abd"), ("a", "ab"), ("abd", "abc")):
            with self.assertRaises(Unlike):
                same(Ring("a", one), Ring("a", other))
            with self.assertRaises(Unlike):
                same(Ring("a", other), Ring("a", one))


class TestListsTold(unittest.TestCase):
    def test_lists_are_new_ones_and_the_askers_own(self):
        ring = Ring("aabab", "ab")
        for ask_list in (ring.lacking, lambda: ring.words(0), lambda: ring.words(3), lambda: ring.words(60)):
            check_own_list(self, ask_list)

    def test_the_same_question_has_the_same_answer(self):
        one, other = Ring("aabab", "ab"), Ring("abaab", "ab")
        for _ in range(2):
            self.assertEqual(same(one, other), ("same", "aabab", 3))
            self.assertEqual(one.root(), "aabab")
            self.assertEqual(one.place_of("aba"), 1)
