"""Promises 93 to 95, and what 6 says of shelves."""

import copy
import fractions
import itertools
import string
import unittest

from lackword.bands import Plain
from lackword.errors import Bare, Full, NameThere, NoBack, NoKinds, NoName, NoWord, Unlike
from lackword.shelf import Shelf, is_name
from lackword.strips import Strip
from tests.helper import (
    WRONG_THINGS, all_texts, check_own_list, edge_texts, lacking_of, made, mixed_text, moved_to, state,
)

NO_NAMES = WRONG_THINGS + ["", "abcdefghi", "z" * 9, "a" * 100, "Abc", "abC", "a b", "ab\n", "a1", "\u00e4", "a\u0301"]

# As many names as a shelf has at most.
TWELVE = ["a", "b", "ab", "ba", "z", "zz", "aaaaaaaa", "zzzzzzzz", "name", "names", "strip", "q"]


def shelf_of(texts, kinds):
    """A shelf with moving strips by the names that the dict tells."""
    shelf = Shelf(kinds)
    for name in texts:
        shelf.lay(name, made(texts[name], kinds))
    return shelf


def whole_state(shelf):
    return [(name, state(shelf.shown(name))) for name in shelf.names()]


def expected_ranks(texts, strip):
    ranks = []
    for name, text in texts.items():
        words = set(lacking_of(text, strip.kinds())) ^ set(lacking_of(strip.text(), strip.kinds()))
        ranks.append((sum((fractions.Fraction(1, len(word) ** 2) for word in words), fractions.Fraction(0)), name))
    return [(name, (far.numerator, far.denominator)) for far, name in sorted(ranks)]


class TestIsName(unittest.TestCase):
    def test_names(self):
        for thing in list(string.ascii_lowercase) + TWELVE + ["abcdefgh", "qwertzui", "none"]:
            self.assertIs(is_name(thing), True, thing)

    def test_no_names(self):
        for thing in NO_NAMES:
            with self.subTest(thing=thing):
                self.assertIs(is_name(thing), False)

    def test_by_length_and_by_sign(self):
        for length in range(20):
            self.assertIs(is_name("k" * length), 1 <= length <= 8)
        for code in range(300):
            for text in (chr(code), "ab" + chr(code), chr(code) + "ab"):
                self.assertIs(is_name(text), "a" <= chr(code) <= "z", text)


class TestBeginning(unittest.TestCase):
    def test_a_new_shelf_has_no_strips(self):
        for kinds in ("a", "z", "abd", "wxyz"):
            shelf = Shelf(kinds)
            self.assertEqual(shelf.names(), [])
            self.assertEqual(shelf.ranked(Strip(kinds)), [])
            self.assertEqual(shelf.ranked(Plain(kinds, kinds)), [])

    def test_kinds_are_refused(self):
        for thing in WRONG_THINGS + ["", "ba", "aa", "abcde"]:
            with self.subTest(thing=thing), self.assertRaises(NoKinds):
                Shelf(thing)


class TestLaying(unittest.TestCase):
    def test_it_answers_none_and_the_strip_is_there(self):
        shelf, strip = Shelf("ab"), moved_to("abba", "ab")
        self.assertIsNone(shelf.lay("one", strip))
        self.assertEqual(shelf.names(), ["one"])
        self.assertIsInstance(shelf.shown("one"), Strip)
        self.assertEqual(state(shelf.shown("one")), state(strip))

    def test_twelve_names(self):
        shelf = Shelf("abd")
        for count, name in enumerate(TWELVE):
            shelf.lay(name, made(mixed_text("abd", 3 * count), "abd"))
            self.assertEqual(shelf.names(), sorted(TWELVE[:count + 1]))
        for count, name in enumerate(TWELVE):
            text = mixed_text("abd", 3 * count)
            self.assertEqual(state(shelf.shown(name)), state(made(text, "abd")))

    def test_the_shelf_keeps_a_copy(self):
        shelf, strip = Shelf("ab"), made("abb", "ab")
        shelf.lay("one", strip)
        kept = state(strip)
        strip.put("a")
        strip.drop()
        self.assertEqual(state(shelf.shown("one")), kept)
        changed = state(strip)
        shelf.drop("one")
        shelf.back("one")
        shelf.back("one")
        self.assertEqual(state(strip), changed)
        self.assertEqual(state(shelf.shown("one")), state(made("ab", "ab")))

    def test_one_strip_under_two_names(self):
        shelf, strip = Shelf("ab"), made("abb", "ab")
        shelf.lay("one", strip)
        shelf.lay("two", strip)
        shelf.drop("one")
        self.assertEqual([shelf.shown(name).text() for name in ("one", "two")], ["bb", "abb"])
        self.assertEqual(state(strip), state(made("abb", "ab")))

    def test_what_is_no_name_goes_first(self):
        shelf = shelf_of({"a": "ab"}, "ab")
        before = whole_state(shelf)
        for thing in NO_NAMES:
            for strip in (Strip("ab"), Strip("abd")):
                kept = copy.deepcopy(thing)
                with self.subTest(thing=thing), self.assertRaises(NoName) as caught:
                    shelf.lay(thing, strip)
                self.assertIs(caught.exception.name, thing)
                self.assertEqual(thing, kept)
        self.assertEqual(whole_state(shelf), before)

    def test_a_name_twice_goes_ahead_of_unlike_kinds(self):
        shelf = shelf_of({"a": "ab", "abcdefgh": ""}, "ab")
        before = whole_state(shelf)
        for name in ("a", "abcdefgh"):
            for strip in (Strip("ab"), made("ab", "ab"), Strip("abd"), shelf.shown(name)):
                with self.assertRaises(NameThere) as caught:
                    shelf.lay(name, strip)
                self.assertEqual(caught.exception.name, name)
        self.assertEqual(whole_state(shelf), before)

    def test_unlike_kinds(self):
        for kinds, other in (("ab", "abd"), ("abd", "ab"), ("a", "b"), ("abcd", "abce")):
            shelf = shelf_of({"x": kinds[:1]}, kinds)
            before = whole_state(shelf)
            with self.assertRaises(Unlike):
                shelf.lay("y", Strip(other))
            self.assertEqual(whole_state(shelf), before)
            shelf.lay("y", Strip(kinds))
            self.assertEqual(shelf.names(), ["x", "y"])

    def test_a_name_that_was_taken_can_be_laid_again(self):
        shelf = shelf_of({"x": "ab"}, "ab")
        shelf.take("x")
        shelf.lay("x", made("b", "ab"))
        self.assertEqual(shelf.shown("x").text(), "b")


class TestNames(unittest.TestCase):
    def test_as_python_orders_texts(self):
        for names in itertools.permutations(["b", "ab", "a", "abc"]):
            shelf = Shelf("ab")
            for name in names:
                shelf.lay(name, Strip("ab"))
            self.assertEqual(shelf.names(), ["a", "ab", "abc", "b"])

    def test_lists_are_new_ones_and_the_askers_own(self):
        shelf = shelf_of({"x": "ab", "y": "", "z": "b"}, "ab")
        check_own_list(self, shelf.names)
        check_own_list(self, lambda: shelf.ranked(Strip("ab")))
        check_own_list(self, lambda: shelf.shown("x").lacking())
        check_own_list(self, lambda: shelf.shown("x").deeds())


class TestShowingAndTaking(unittest.TestCase):
    def test_what_is_shown_is_a_copy(self):
        shelf = shelf_of({"x": "abb"}, "ab")
        before = whole_state(shelf)
        shown = shelf.shown("x")
        shown.put("a")
        shown.drop()
        self.assertEqual(whole_state(shelf), before)
        again = shelf.shown("x")
        shelf.put("x", "b")
        self.assertEqual(again.text(), "abb")
        self.assertEqual(shown.text(), "bba")

    def test_what_is_taken_goes_from_the_shelf(self):
        shelf = shelf_of({"x": "abb", "y": "b"}, "ab")
        taken = shelf.take("x")
        self.assertIsInstance(taken, Strip)
        self.assertEqual(state(taken), state(made("abb", "ab")))
        self.assertEqual(shelf.names(), ["y"])
        before = whole_state(shelf)
        taken.back()
        taken.drop()
        self.assertEqual(state(taken)[3], [("put", "a"), ("put", "b"), ("drop", "a")])
        self.assertEqual(whole_state(shelf), before)

    def test_the_strip_itself_is_taken(self):
        shelf, strip = Shelf("ab"), made("ab", "ab")
        shelf.lay("x", strip)
        shelf.put("x", "a")
        shelf.drop("x")
        taken = shelf.take("x")
        self.assertEqual(taken.deeds(), [("put", "a"), ("put", "b"), ("put", "a"), ("drop", "a")])
        self.assertEqual(strip.text(), "ab")
        taken.put("b")
        self.assertEqual((strip.text(), taken.text()), ("ab", "bab"))

    def test_a_taken_strip_laid_under_two_names(self):
        shelf = shelf_of({"x": "abb"}, "ab")
        taken = shelf.take("x")
        shelf.lay("y", taken)
        shelf.lay("z", taken)
        taken.drop()
        shelf.put("z", "a")
        self.assertEqual([shelf.shown(name).text() for name in ("y", "z")], ["abb", "abba"])


class TestDeeds(unittest.TestCase):
    def test_told_is_what_the_strip_tells(self):
        shelf, strip = Shelf("abd"), Strip("abd")
        shelf.lay("x", strip)
        shelf.lay("y", made("dd", "abd"))
        other = state(shelf.shown("y"))
        for sign in "abdab--<ab-<<d--<-a<<b":
            if sign == "-":
                self.assertEqual(shelf.drop("x"), strip.drop())
            elif sign == "<":
                self.assertEqual(shelf.back("x"), strip.back())
            else:
                self.assertEqual(shelf.put("x", sign), strip.put(sign))
            self.assertEqual(state(shelf.shown("x")), state(strip))
            self.assertEqual(state(shelf.shown("y")), other)

    def test_deeds_from_ahead_of_the_laying_are_taken_back(self):
        shelf = Shelf("ab")
        shelf.lay("x", moved_to("ab", "ab"))
        for text in ("a", "ba", "b", ""):
            shelf.back("x")
            self.assertEqual(shelf.shown("x").text(), text)
        with self.assertRaises(NoBack):
            shelf.back("x")

    def test_refused_as_the_strip_refuses_it(self):
        shelf = shelf_of({"bare": "", "full": mixed_text("abd", 40), "some": "abd"}, "abd")
        before = whole_state(shelf)
        for name in shelf.names():
            for thing in WRONG_THINGS + ["", "c", "ab", "aa"]:
                with self.subTest(name=name, thing=thing), self.assertRaises(NoWord) as caught:
                    shelf.put(name, thing)
                self.assertIs(caught.exception.word, thing)
        with self.assertRaises(Full):
            shelf.put("full", "a")
        with self.assertRaises(Bare):
            shelf.drop("bare")
        with self.assertRaises(NoBack):
            shelf.back("bare")
        self.assertEqual(whole_state(shelf), before)

    def test_answers_are_the_askers_own(self):
        shelf = shelf_of({"x": "abba"}, "ab")
        for deed in (lambda: shelf.put("x", "b"), lambda: shelf.drop("x"), lambda: shelf.back("x")):
            told = deed()
            before = whole_state(shelf)
            for part in told:
                part.append(("zz", ("stands", 0)))
                part.clear()
            self.assertEqual(whole_state(shelf), before)


class TestNamesThatAreNotThere(unittest.TestCase):
    def calls(self, shelf):
        # Of put also what the strip would refuse.
        return [
            shelf.shown, shelf.take, shelf.drop, shelf.back, lambda name: shelf.put(name, "a"),
            lambda name: shelf.put(name, "c"), lambda name: shelf.put(name, None),
        ]

    def test_whatever_thing_it_is(self):
        for shelf in (Shelf("ab"), shelf_of({"x": "", "xy": "ab"}, "ab")):
            before = whole_state(shelf)
            for thing in NO_NAMES + ["a", "y", "yx", "xx", "xyz", "abcdefgh", ["x"], ("x",), {"x": "x"}]:
                for call in self.calls(shelf):
                    with self.subTest(thing=thing), self.assertRaises(NoName) as caught:
                        call(thing)
                    self.assertIs(caught.exception.name, thing)
            self.assertEqual(whole_state(shelf), before)

    def test_a_name_that_was_taken(self):
        shelf = shelf_of({"x": "ab", "y": "b"}, "ab")
        shelf.take("x")
        for call in self.calls(shelf):
            with self.assertRaises(NoName) as caught:
                call("x")
            self.assertEqual(caught.exception.name, "x")
        self.assertEqual(shelf.names(), ["y"])


class TestRanked(unittest.TestCase):
    def test_a_small_one(self):
        shelf = shelf_of({"long": "abaab", "bare": "", "short": "aba"}, "ab")
        told = [("short", (0, 1)), ("long", (61, 144)), ("bare", (47, 18))]
        for strip in (Plain("aba", "ab"), made("aba", "ab"), moved_to("aba", "ab"), shelf.shown("short")):
            self.assertEqual(shelf.ranked(strip), told)
            self.assertEqual([type(distance) for _, distance in shelf.ranked(strip)], [tuple] * 3)

    def test_of_equal_distances_the_lesser_name(self):
        for names in itertools.permutations(["b", "ab", "a", "c"]):
            shelf = Shelf("ab")
            for name in names:
                # Letters told backwards are as far from no letters.
                shelf.lay(name, made("aab" if name in ("b", "a") else "baa", "ab"))
            far = shelf.ranked(Strip("ab"))
            self.assertEqual([name for name, _ in far], ["a", "ab", "b", "c"])
            self.assertEqual(len({distance for _, distance in far}), 1)
            near = shelf.ranked(Plain("baa", "ab"))
            self.assertEqual([name for name, _ in near], ["ab", "c", "a", "b"])
            self.assertEqual([distance for _, distance in near[:2]], [(0, 1), (0, 1)])

    def test_distances_are_not_ordered_as_python_orders_tuples(self):
        texts = {"x": "abaab", "y": "", "z": "abab", "w": "b", "v": "aaaa"}
        shelf = shelf_of(texts, "ab")
        unordered = 0
        for text in all_texts("ab", 4):
            told = shelf.ranked(Plain(text, "ab"))
            self.assertEqual(told, expected_ranks(texts, Plain(text, "ab")))
            unordered += told != sorted(told, key=lambda rank: rank[1])
        self.assertGreater(unordered, 0)

    def test_all_short_texts(self):
        texts = dict(zip(TWELVE, all_texts("ab", 3)))
        shelf = shelf_of(texts, "ab")
        for text in all_texts("ab", 4):
            for strip in (Plain(text, "ab"), moved_to(text, "ab")):
                self.assertEqual(shelf.ranked(strip), expected_ranks(texts, strip))

    def test_edges_with_twelve_names(self):
        texts = dict(zip(TWELVE, edge_texts()[5:]))
        shelf = shelf_of(texts, "abcd")
        self.assertEqual(len(shelf.names()), 12)
        for text in edge_texts():
            strip = Plain(text, "abcd")
            self.assertEqual(shelf.ranked(strip), expected_ranks(texts, strip))

    def test_one_kind(self):
        texts = {name: "a" * (3 * count) for count, name in enumerate(TWELVE)}
        shelf = shelf_of(texts, "a")
        for length in range(41):
            strip = Plain("a" * length, "a")
            self.assertEqual(shelf.ranked(strip), expected_ranks(texts, strip))

    def test_unlike_kinds_are_refused(self):
        for shelf in (Shelf("ab"), shelf_of({"x": "ab"}, "ab")):
            before = whole_state(shelf)
            for kinds in ("abd", "a", "b", "ac"):
                for strip in (Strip(kinds), Plain("", kinds)):
                    with self.assertRaises(Unlike):
                        shelf.ranked(strip)
            self.assertEqual(whole_state(shelf), before)

    def test_neither_the_shelf_nor_the_strip_changes(self):
        shelf, strip = shelf_of({"x": "ab", "y": "bb"}, "ab"), moved_to("ba", "ab")
        before = (whole_state(shelf), state(strip))
        self.assertEqual(shelf.ranked(strip), shelf.ranked(strip))
        self.assertEqual((whole_state(shelf), state(strip)), before)

    def test_behind_every_change_as_if_made_anew(self):
        shelf, by = Shelf("abd"), [Strip("abd"), Plain("abdab", "abd"), moved_to("ddb", "abd")]
        texts = {}
        changes = mixed_text("abcdefgh", 150)
        for count, sign in enumerate(changes):
            name = TWELVE[count * 7 % 5]
            if name not in texts:
                shelf.lay(name, made("ab"[:count % 3], "abd"))
            elif sign in "abcd":
                shelf.put(name, "abd"[count % 3])
            elif sign == "e":
                shelf.take(name)
            elif sign in "fg" and texts[name]:
                shelf.drop(name)
            elif shelf.shown(name).deeds():
                shelf.back(name)
            texts = {each: shelf.shown(each).text() for each in shelf.names()}
            for strip in by:
                told = shelf.ranked(strip)
                self.assertEqual(told, expected_ranks(texts, strip))
                self.assertEqual(told, shelf_of(texts, "abd").ranked(strip))
