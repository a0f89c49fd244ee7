"""Promises 40 to 46, and what 6 says of puts, drops and take-backs."""

import itertools
import unittest

from lackword.bands import Band, Plain
from lackword.errors import Bare, Full, NoBack, NoKinds, NoWord
from lackword.places import places
from lackword.strips import Strip
from tests.helper import WRONG_THINGS, all_texts, check_own_list, edge_texts, lacking_of, made, mixed_text, state

FORTY = mixed_text("abcd", 40)


def expected_change(before, after, kinds):
    """What came and what went, from both texts alone."""
    old, new = lacking_of(before, kinds), lacking_of(after, kinds)
    came = [word for word in new if word not in old]
    went = [word for word in old if word not in new]
    more = len(after) > len(before)
    lesser, longer = (before, after) if more else (after, before)

    def stood(word):
        return (word, ("stands" if more else "stood", longer.index(word)))

    def edge(word):
        shorter = [piece for piece in (word[1:], word[:-1]) if piece in longer and piece not in lesser][0]
        return (word, ("first" if more else "last", shorter, longer.index(shorter)))

    if more:
        return ([edge(word) for word in came], [stood(word) for word in went])
    return ([stood(word) for word in came], [edge(word) for word in went])


class Followed:
    """A strip, and beside it the letters and deeds as they ought to be."""

    def __init__(self, test, kinds):
        self.test, self.kinds = test, kinds
        self.strip, self.text, self.deeds = Strip(kinds), "", []
        self.answers = []

    def check(self, answer, after):
        test, before, kinds = self.test, self.text, self.kinds
        test.assertEqual(answer, expected_change(before, after, kinds), (before, after))
        longer = max(before, after, key=len)
        one = answer[1] if len(after) > len(before) else answer[0]
        test.assertEqual(len(one), 1)
        test.assertEqual(places(longer, one[0][0]), [one[0][1][1]])
        for word, reason in answer[0] + answer[1]:
            if len(reason) == 3:
                test.assertIn(reason[1], (word[1:], word[:-1]))
                test.assertEqual(places(longer, reason[1]), [reason[2]])
        self.text = after
        test.assertEqual(state(self.strip), (after, kinds, lacking_of(after, kinds), self.deeds))

    def put(self, letter):
        answer = self.strip.put(letter)
        self.deeds.append(("put", letter))
        self.answers.append(answer)
        self.check(answer, self.text + letter)

    def drop(self):
        answer = self.strip.drop()
        self.deeds.append(("drop", self.text[0]))
        self.answers.append(answer)
        self.check(answer, self.text[1:])

    def back(self):
        deed = self.deeds.pop()
        answer = self.strip.back()
        self.check(answer, self.text[:-1] if deed[0] == "put" else deed[1] + self.text)
        other_way = {"first": "last", "last": "first", "stands": "stood", "stood": "stands"}
        came, went = [
            [(word, (other_way[reason[0]],) + reason[1:]) for word, reason in told] for told in self.answers.pop()
        ]
        self.test.assertEqual(answer, (went, came))

    def run(self, row):
        for sign in row:
            if sign == "-":
                self.drop()
            elif sign == "<":
                self.back()
            else:
                self.put(sign)


class TestBeginning(unittest.TestCase):
    def test_it_is_a_band_without_letters(self):
        for kinds in ("a", "z", "abd", "wxyz"):
            strip = Strip(kinds)
            self.assertIsInstance(strip, Band)
            self.assertEqual(state(strip), ("", kinds, list(kinds), []))
            self.assertEqual(strip.reach(), 1)

    def test_kinds_are_refused(self):
        for thing in WRONG_THINGS + ["", "ba", "aa", "abcde"]:
            with self.subTest(thing=thing), self.assertRaises(NoKinds):
                Strip(thing)


class TestAnswers(unittest.TestCase):
    def test_small_ones(self):
        strip = Strip("ab")
        self.assertEqual(strip.put("a"), ([("aa", ("first", "a", 0))], [("a", ("stands", 0))]))
        self.assertEqual(
            strip.put("b"), ([("ba", ("first", "b", 1)), ("bb", ("first", "b", 1))], [("b", ("stands", 1))])
        )
        self.assertEqual(
            strip.drop(), ([("a", ("stood", 0))], [("aa", ("last", "a", 0)), ("ba", ("last", "a", 0))])
        )
        self.assertEqual(
            strip.back(), ([("aa", ("first", "a", 0)), ("ba", ("first", "a", 0))], [("a", ("stands", 0))])
        )

    def test_one_kind(self):
        strip = Strip("a")
        for many in range(40):
            shorter = "a" * (many + 1)
            self.assertEqual(strip.put("a"), ([(shorter + "a", ("first", shorter, 0))], [(shorter, ("stands", 0))]))
        for many in range(40, 0, -1):
            shorter = "a" * many
            self.assertEqual(strip.drop(), ([(shorter, ("stood", 0))], [(shorter + "a", ("last", shorter, 0))]))

    def test_all_short_rows(self):
        for kinds, most in (("a", 6), ("ab", 5), ("wxyz", 3)):
            for size in range(most + 1):
                for row in itertools.product(kinds + "-<", repeat=size):
                    self.run_where_due(kinds, row)

    def run_where_due(self, kinds, row):
        text, deeds = "", []
        for sign in row:
            if sign in kinds:
                deeds.append(text)
                text = text + sign
            elif sign == "-" and text:
                deeds.append(text)
                text = text[1:]
            elif sign == "<" and deeds:
                text = deeds.pop()
            else:
                return
        Followed(self, kinds).run(row)

    def test_edges_put_dropped_and_taken_back(self):
        for text in edge_texts():
            followed = Followed(self, "abcd")
            followed.run(text)
            followed.run("-" * len(text))
            followed.run("<" * 2 * len(text))
            self.assertEqual(state(followed.strip), ("", "abcd", list("abcd"), []))

    def test_a_strip_that_moves_on(self):
        for kinds in ("ab", "abd", "abcd"):
            followed = Followed(self, kinds)
            followed.run(mixed_text(kinds, 40))
            for letter in (mixed_text(kinds, 50)[40:] + "aaa" + kinds * 3)[:20]:
                followed.run("-" + letter)
            followed.run("<" * 25)
            followed.run("--a<-<" * 4)

    def test_mixed_rows_of_four_hundred_deeds(self):
        for kinds in ("a", "abd"):
            followed = Followed(self, kinds)
            for sign in mixed_text("pqrstuv", 400):
                if sign in "pqrs" and len(followed.text) < 40:
                    followed.put(kinds[len(followed.deeds) * 7 // 3 % len(kinds)])
                elif sign in "tu" and followed.text:
                    followed.drop()
                elif followed.deeds:
                    followed.back()


class TestTakingBack(unittest.TestCase):
    def test_a_deed_taken_back_ahead_of_other_deeds(self):
        strip = made("abb", "ab")
        strip.back()
        strip.drop()
        strip.put("a")
        self.assertEqual(strip.deeds(), [("put", "a"), ("put", "b"), ("drop", "a"), ("put", "a")])
        self.assertEqual(strip.text(), "ba")
        for text in ("b", "ab", "a", ""):
            strip.back()
            self.assertEqual((strip.text(), strip.lacking()), (text, lacking_of(text, "ab")))
        self.assertEqual(strip.deeds(), [])

    def test_nothing_left_to_take_back(self):
        strip = Strip("ab")
        for many in (0, 1, 3):
            for letter in "aba"[:many]:
                strip.put(letter)
            for _ in range(many):
                strip.back()
            before = state(strip)
            with self.assertRaises(NoBack):
                strip.back()
            self.assertEqual(state(strip), before)
        strip.put("b")
        strip.drop()
        strip.back()
        self.assertEqual((strip.text(), strip.deeds()), ("b", [("put", "b")]))

    def test_a_drop_taken_back_to_forty_letters(self):
        strip = made(FORTY, "abcd")
        strip.drop()
        strip.put("a")
        strip.back()
        strip.back()
        self.assertEqual(strip.text(), FORTY)
        with self.assertRaises(Full):
            strip.put("a")


class TestRefusals(unittest.TestCase):
    def test_what_is_no_letter_ahead_of_full(self):
        for strip in (Strip("abd"), made("abba", "abd"), made("ab" * 20, "abd")):
            before = state(strip)
            for thing in WRONG_THINGS + ["", "c", "ab", "aa", "a" * 61]:
                with self.subTest(thing=thing), self.assertRaises(NoWord) as caught:
                    strip.put(thing)
                self.assertIs(caught.exception.word, thing)
                self.assertEqual(state(strip), before)

    def test_forty_letters_and_a_put_more(self):
        for text in (FORTY, "a" * 40):
            strip = made(text, "abcd")
            before = state(strip)
            for letter in "abcd":
                with self.assertRaises(Full):
                    strip.put(letter)
                self.assertEqual(state(strip), before)
            strip.drop()
            strip.put("c")
            self.assertEqual(strip.text(), text[1:] + "c")

    def test_nothing_left_to_drop(self):
        strip = made("ab", "ab")
        strip.drop()
        strip.drop()
        for strip in (Strip("ab"), strip):
            before = state(strip)
            with self.assertRaises(Bare):
                strip.drop()
            self.assertEqual(state(strip), before)

    def test_words_that_are_asked_for(self):
        strip = made("abab", "ab")
        before = state(strip)
        for thing in WRONG_THINGS + ["c", "a" * 61]:
            for asked in (strip.stands, strip.place_of):
                with self.subTest(thing=thing), self.assertRaises(NoWord) as caught:
                    asked(thing)
                self.assertIs(caught.exception.word, thing)
        self.assertEqual(state(strip), before)


class TestAsABand(unittest.TestCase):
    def test_it_answers_as_a_plain_strip_does(self):
        for text in edge_texts():
            strip, plain = made(text, "abcd"), Plain(text, "abcd")
            self.assertEqual((strip.text(), strip.kinds()), (plain.text(), plain.kinds()))
            self.assertEqual((strip.reach(), strip.lacking()), (plain.reach(), plain.lacking()))
            for length in (0, 1, 2, 39, 40, 41, 60):
                self.assertEqual(strip.words(length), plain.words(length))
            for word in ["", "a", "ab", "ba", "aa", "a" * 41, "a" * 60, text] + plain.lacking():
                self.assertIs(strip.stands(word), plain.stands(word))
                self.assertEqual(strip.place_of(word), plain.place_of(word))

    def test_places_move_with_the_letters(self):
        strip = made("abba", "ab")
        self.assertEqual(strip.place_of("a"), 0)
        strip.drop()
        self.assertEqual(strip.place_of("a"), 2)
        self.assertIs(strip.stands("ab"), False)

    def test_one_list_just_for_one_row_of_letters(self):
        # The same letters, brought there by other deeds.
        strip = made("bbabba", "ab")
        strip.drop()
        strip.drop()
        self.assertEqual(strip.lacking(), made("abba", "ab").lacking())
        lists = [tuple(made(text, "ab").lacking()) for text in all_texts("ab", 6)]
        self.assertEqual(len(set(lists)), len(lists))


class TestCopied(unittest.TestCase):
    def test_a_copy_is_another_strip_alike(self):
        for text in ("", "a", "abba", FORTY):
            strip = made(text, "abcd")
            if text:
                strip.drop()
            twin = strip.copied()
            self.assertIsInstance(twin, Strip)
            self.assertIsNot(twin, strip)
            self.assertEqual(state(twin), state(strip))

    def test_both_are_moved_apart(self):
        strip = made("abba", "ab")
        strip.drop()
        before = state(strip)
        twin = strip.copied()
        twin.put("a")
        twin.put("b")
        self.assertEqual(state(strip), before)
        strip.back()
        strip.back()
        self.assertEqual(strip.text(), "abb")
        self.assertEqual(state(twin)[0], "bbaab")
        self.assertEqual(twin.lacking(), lacking_of("bbaab", "ab"))
        self.assertEqual(strip.lacking(), lacking_of("abb", "ab"))
        for text in ("bbaa", "bba", "abba", "abb", "ab", "a", ""):
            twin.back()
            self.assertEqual((twin.text(), twin.lacking()), (text, lacking_of(text, "ab")))
        with self.assertRaises(NoBack):
            twin.back()
        self.assertEqual(strip.deeds(), [("put", "a"), ("put", "b"), ("put", "b")])


class TestListsTold(unittest.TestCase):
    def test_lists_are_new_ones_and_the_askers_own(self):
        strip = made("abba", "ab")
        for ask in (strip.lacking, strip.deeds, lambda: strip.words(2)):
            check_own_list(self, ask)
        strip.put("a")
        self.assertEqual(strip.lacking(), lacking_of("abbaa", "ab"))

    def test_answers_are_the_askers_own(self):
        strip = made("abba", "ab")
        for deed in (lambda: strip.put("b"), strip.drop, strip.back, strip.back):
            deed_answer = deed()
            after = state(strip)
            for told in deed_answer:
                told.append(("zz", ("stands", 0)))
                told.clear()
            self.assertEqual(state(strip), after)
            self.assertEqual(strip.lacking(), lacking_of(strip.text(), "ab"))
        self.assertEqual(strip.back(), expected_change("abba", "abb", "ab"))
