"""Promise 6, over the whole program: behind every deed all modules say one and the same of a strip."""

import unittest

from lackword.asking import ask, first_place, how_often
from lackword.backing import strip_of
from lackword.bands import Plain
from lackword.lacking import inside, lacking
from lackword.lists import avoids
from lackword.lone import lone_all
from lackword.machine import Machine
from lackword.nearness import distance, reasons
from lackword.places import places, stretches
from lackword.rings import Ring, same
from lackword.shelf import Shelf
from lackword.strips import Strip
from tests.helper import all_texts, lacking_of, made, mixed_text, state


def do(strip, sign, kinds, count):
    """One deed, as the sign says where it can be done; the letters are put in an uneven order."""
    if sign in "pqrs" and len(strip.text()) < 40:
        return strip.put(kinds[count * count * 7 // 3 % len(kinds)])
    if sign in "tu" and strip.text():
        return strip.drop()
    return strip.back() if strip.deeds() else None


class TestBehindEveryDeed(unittest.TestCase):
    def test_rows_of_deeds(self):
        for kinds, many in (("a", 120), ("ab", 120), ("abd", 80), ("wxyz", 80)):
            strip, words = Strip(kinds), list(all_texts(kinds, 2)) + [mixed_text(kinds, 60), kinds * 3]
            for count, sign in enumerate(mixed_text("pqrstuv", many)):
                do(strip, sign, kinds, count)
                self.check_list(strip)
                self.check_words(strip, words + strip.lacking()[-3:] + [strip.text()])
                self.check_machine(strip)

    def check_list(self, strip):
        text, kinds = strip.text(), strip.kinds()
        anew = lacking_of(text, kinds)
        self.assertEqual(strip.lacking(), anew)
        self.assertEqual(Plain(text, kinds).lacking(), anew)
        self.assertEqual([word for word, _, _ in lacking(text, kinds)], anew)
        self.assertEqual(strip_of(strip.lacking(), kinds), text)
        self.assertEqual(distance(strip, Plain(text, kinds)), (0, 1))

    def check_words(self, strip, words):
        for word in words:
            told = ask(strip, word)
            self.assertIs(strip.stands(word), word in strip.text())
            self.assertIs(avoids(strip.lacking(), word), word in strip.text())
            if told[0] == "there":
                self.assertEqual(told[1], places(strip.text(), word)[0])
                self.assertEqual(first_place(strip, word), told[1])
                self.assertIsNone(inside(strip.lacking(), word))
            else:
                self.assertEqual(how_often(strip, word), 0)
                self.assertEqual(told[1:], inside(strip.lacking(), word))
                self.assertTrue(word.startswith(told[1], told[2]))

    def check_machine(self, strip):
        machine = Machine(strip.text(), strip.kinds())
        self.assertEqual(machine.ways(), len(stretches(strip.text())))
        for word in strip.lacking():
            self.assertIsNone(machine.room_of(word))
            self.assertIsNotNone(machine.room_of(word[1:]))
            self.assertIsNotNone(machine.room_of(word[:-1]))

    def test_lists_have_no_other_strip(self):
        for kinds, most in (("a", 20), ("ab", 6), ("abd", 4)):
            lists = {}
            for text in all_texts(kinds, most):
                told = tuple(made(text, kinds).lacking())
                self.assertNotIn(told, lists)
                lists[told] = text
                self.assertEqual(strip_of(list(reversed(told)), kinds), text)


class TestModulesTogether(unittest.TestCase):
    def test_questions_change_nothing(self):
        strip = made("abbab", "abd")
        strip.drop()
        shelf, before = Shelf("abd"), state(strip)
        shelf.lay("x", strip)
        for _ in range(2):
            ask(strip, "abba")
            lone_all(strip)
            strip_of(strip.lacking(), "abd")
            reasons(strip, Plain("ab", "abd"))
            shelf.ranked(strip)
            Machine(strip.text(), "abd").ways()
            self.assertEqual(state(strip), before)
            self.assertEqual(state(shelf.shown("x")), before)

    def test_two_rings_have_one_list_just_where_they_are_the_same(self):
        rings = [Ring(text, "ab") for text in all_texts("ab", 6) if text]
        for one in rings:
            for other in rings:
                self.assertEqual(same(one, other)[0] == "same", one.lacking() == other.lacking())
