"""Promises 20 to 26, and what 6 says of the machine."""

import unittest

from lackword.errors import NoKinds, NoRoom, NoWord
from lackword.machine import Machine
from lackword.places import in_order, stretches
from tests.helper import NO_NUMBERS, WRONG_THINGS, all_texts, edge_texts, mixed_text

SHORT = [("a", 5), ("ab", 7), ("abd", 4), ("wxyz", 3)]


def goes_on(text, word):
    """All words that can follow this word in the text."""
    found = set()
    for start in range(len(text) - len(word) + 1):
        if text[start:start + len(word)] == word:
            rest = text[start + len(word):]
            found.update(rest[:size] for size in range(len(rest) + 1))
    return frozenset(found)


def rooms_by_definition(text):
    """The rooms, told by what can be gone from each, in the order of their first words; and these words."""
    first = {}
    for word in stretches(text):
        first.setdefault(goes_on(text, word), word)
    return list(first), list(first.values())


class TestRooms(unittest.TestCase):
    def check(self, text, kinds):
        machine = Machine(text, kinds)
        rooms, words = rooms_by_definition(text)
        self.assertEqual(machine.rooms(), len(rooms), text)
        self.assertEqual([machine.word_to(room) for room in range(len(rooms))], words, text)
        for room, word in enumerate(words):
            for letter in kinds:
                follows = goes_on(text, word + letter)
                expected = rooms.index(follows) if follows else None
                self.assertEqual(machine.way(room, letter), expected, (text, room, letter))
        for word in stretches(text):
            self.assertEqual(machine.room_of(word), rooms.index(goes_on(text, word)), (text, word))

    def test_all_short_texts(self):
        for kinds, most in SHORT:
            for text in all_texts(kinds, most):
                self.check(text, kinds)

    def test_edges(self):
        for text in edge_texts():
            self.check(text, "abcd")

    def test_no_fewer_rooms_than_unlike_rests(self):
        self.assertEqual(Machine("", "abcd").rooms(), 1)
        self.assertEqual(Machine("a", "a").rooms(), 2)
        self.assertEqual(Machine("a" * 40, "abcd").rooms(), 41)
        self.assertEqual(Machine("abaab", "ab").rooms(), 6)
        self.assertEqual(Machine("abbb", "ab").rooms(), 5)
        # "ab" and "b" can be followed alike though they stand at unlike places.
        machine = Machine("abb", "ab")
        self.assertEqual(machine.rooms(), 4)
        self.assertNotEqual(machine.room_of("ab"), machine.room_of("bb"))
        machine = Machine("abaab", "ab")
        self.assertEqual(machine.room_of("b"), machine.room_of("ab"))

    def test_the_numbers_go_in_the_order_in_which_one_comes_to_the_rooms(self):
        for text in edge_texts() + list(all_texts("abd", 4)):
            machine = Machine(text, "abcd")
            met = [0]
            for room in range(machine.rooms()):
                self.assertEqual(met[room], room)
                for letter in "abcd":
                    reached = machine.way(room, letter)
                    if reached is not None and reached not in met:
                        met.append(reached)
            self.assertEqual(met, list(range(machine.rooms())))
            words = [machine.word_to(room) for room in met]
            self.assertEqual(in_order(words), words)
            self.assertEqual([machine.room_of(word) for word in words], met)


class TestWordsGone(unittest.TestCase):
    def test_just_the_words_that_stand_can_be_gone(self):
        for kinds, most in SHORT:
            for text in all_texts(kinds, most):
                machine = Machine(text, kinds)
                for word in all_texts(kinds, min(most + 1, 5)):
                    self.assertEqual(machine.room_of(word) is not None, word in text, (text, word))

    def test_forty_letters(self):
        text = mixed_text("abcd", 40)
        machine = Machine(text, "abcd")
        for word in stretches(text):
            for letter in "abcd":
                self.assertEqual(machine.room_of(word + letter) is not None, word + letter in text)
                self.assertEqual(machine.room_of(letter + word) is not None, letter + word in text)

    def test_the_empty_word(self):
        for text in edge_texts():
            self.assertEqual(Machine(text, "abcd").room_of(""), 0)
            self.assertEqual(Machine(text, "abcd").word_to(0), "")

    def test_sixty_letters_and_a_kind_that_is_not_there(self):
        machine = Machine("a" * 40, "ab")
        self.assertEqual(machine.room_of("a" * 40), 40)
        self.assertIsNone(machine.room_of("a" * 41))
        self.assertIsNone(machine.room_of("a" * 60))
        self.assertIsNone(machine.room_of("b"))
        self.assertIsNone(machine.way(0, "b"))
        self.assertIsNone(machine.way(40, "a"))
        self.assertEqual(machine.way(39, "a"), 40)

    def test_how_many(self):
        for kinds, most in SHORT:
            for text in all_texts(kinds, most):
                self.assertEqual(Machine(text, kinds).ways(), len(stretches(text)), text)
        for text in edge_texts():
            self.assertEqual(Machine(text, "abcd").ways(), len(stretches(text)), text)
        self.assertEqual(Machine("", "a").ways(), 1)
        self.assertEqual(Machine("a" * 40, "a").ways(), 41)


class TestParting(unittest.TestCase):
    def check(self, text, kinds, step):
        machine = Machine(text, kinds)
        rooms, words = rooms_by_definition(text)
        for one in range(0, len(rooms), step):
            for other in range(len(rooms)):
                told = machine.parting(one, other)
                if one == other:
                    self.assertIsNone(told)
                    continue
                self.assertEqual(told, in_order(rooms[one] ^ rooms[other])[0], (text, one, other))
                self.assertTrue(1 <= len(told) <= len(text))

    def test_all_short_texts(self):
        for kinds, most in [("a", 5), ("ab", 6), ("abd", 4), ("wxyz", 3)]:
            for text in all_texts(kinds, most):
                self.check(text, kinds, 1)

    def test_edges(self):
        for text in edge_texts():
            self.check(text, "abcd", 7)

    def test_as_many_letters_as_the_text(self):
        self.assertEqual(Machine("a" * 40, "a").parting(0, 1), "a" * 40)
        self.assertEqual(Machine("a" * 40, "a").parting(1, 0), "a" * 40)
        self.assertEqual(Machine("a" * 40, "a").parting(39, 40), "a")

    def test_of_several_as_short_the_first(self):
        machine = Machine("abc", "abc")
        self.assertEqual(machine.parting(0, 3), "a")
        self.assertEqual(machine.parting(1, 2), "b")


class TestRefusals(unittest.TestCase):
    def test_kinds_ahead_of_the_text(self):
        for kinds in WRONG_THINGS + ["", "ba", "abcde"]:
            for text in ("", "zz", None, 7):
                with self.subTest(kinds=kinds), self.assertRaises(NoKinds):
                    Machine(text, kinds)

    def test_texts(self):
        for thing in WRONG_THINGS + ["c", "abc", "a" * 41, "b" * 60]:
            with self.subTest(thing=thing), self.assertRaises(NoWord) as caught:
                Machine(thing, "ab")
            self.assertIs(caught.exception.word, thing)

    def test_rooms_ahead_of_letters(self):
        machine = Machine("abaab", "ab")
        for thing in NO_NUMBERS + [6, 7]:
            for asked in (lambda: machine.word_to(thing), lambda: machine.way(thing, "a"),
                          lambda: machine.way(thing, None), lambda: machine.parting(thing, 0),
                          lambda: machine.parting(0, thing), lambda: machine.parting(thing, thing),
                          lambda: machine.parting(thing, 99)):
                with self.subTest(thing=thing), self.assertRaises(NoRoom) as caught:
                    asked()
                self.assertIs(caught.exception.room, thing)

    def test_the_first_room_is_refused_first(self):
        machine = Machine("abaab", "ab")
        for one, other in ((True, 99), (6, None), ([], ()), (-1, 6)):
            with self.assertRaises(NoRoom) as caught:
                machine.parting(one, other)
            self.assertIs(caught.exception.room, one)
        with self.assertRaises(NoRoom) as caught:
            machine.parting(5, 6)
        self.assertEqual(caught.exception.room, 6)

    def test_truths_are_no_rooms(self):
        machine = Machine("ab", "ab")
        for thing in (True, False):
            with self.assertRaises(NoRoom) as caught:
                machine.word_to(thing)
            self.assertIs(caught.exception.room, thing)

    def test_letters(self):
        machine = Machine("abaab", "abd")
        for thing in WRONG_THINGS + ["", "c", "ab", "aa"]:
            with self.subTest(thing=thing), self.assertRaises(NoWord) as caught:
                machine.way(0, thing)
            self.assertIs(caught.exception.word, thing)

    def test_words(self):
        machine = Machine("abaab", "ab")
        for thing in WRONG_THINGS + ["c", "abc", "a" * 61]:
            with self.subTest(thing=thing), self.assertRaises(NoWord) as caught:
                machine.room_of(thing)
            self.assertIs(caught.exception.word, thing)

    def test_what_is_refused_changes_nothing_and_answers_stay(self):
        machine = Machine("abaab", "ab")

        def answers():
            rooms = range(machine.rooms())
            return [
                [(machine.word_to(room), machine.way(room, "a"), machine.way(room, "b")) for room in rooms],
                [machine.parting(one, other) for one in rooms for other in rooms],
                machine.ways(),
            ]

        before = answers()
        for thing in NO_NUMBERS:
            with self.assertRaises(NoRoom):
                machine.way(thing, "a")
        for thing in WRONG_THINGS:
            with self.assertRaises(NoWord):
                machine.room_of(thing)
        self.assertEqual(answers(), before)
        self.assertEqual(answers(), before)
