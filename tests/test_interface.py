"""The interface: each name is there, with the arguments as DOC.md tells them."""

import importlib
import inspect
import unittest

FUNCTIONS = {
    "kinds": ["is_kinds(thing)", "is_word(thing, kinds, most)", "need_kinds(thing)", "need_word(thing, kinds, most)"],
    "places": ["places(text, word)", "stretches(text)", "in_order(words)"],
    "lacking": ["lacking(text, kinds)", "is_lacking(text, kinds, word)", "inside(words, word)"],
    "asking": [
        "ask(band, word)", "how_often(strip, word)", "first_place(strip, word)", "last_place(strip, word)",
        "oftenest(strip, length)",
    ],
    "lone": ["lone(strip, place)", "doubles(strip, place)", "lone_all(strip)"],
    "lists": [
        "need_list(words, kinds)", "avoids(words, word)", "shows_inside(words, one, other)",
        "shows_endless(words, kinds, head, lap)", "shows_long(words, kinds, word)",
        "shows_split(words, kinds, one, other)",
    ],
    "backing": ["strip_of(words, kinds)"],
    "rings": ["same(one, other)"],
    "shares": ["fraction(top, bottom)", "plus(one, other)", "below(one, other)"],
    "nearness": ["reasons(one, other)", "distance(one, other)"],
    "shelf": ["is_name(thing)"],
}
BAND = ["kinds()", "text()", "words(length)", "stands(word)", "place_of(word)", "reach()", "lacking()"]
CLASSES = {
    "bands": {"Plain(text, kinds)": BAND},
    "machine": {
        "Machine(text, kinds)": [
            "rooms()", "way(room, letter)", "room_of(word)", "word_to(room)", "parting(room, other)", "ways()",
        ],
    },
    "strips": {"Strip(kinds)": BAND + ["put(letter)", "drop()", "back()", "deeds()", "copied()"]},
    "rings": {"Ring(text, kinds)": BAND + ["root()", "turned(by)"]},
    "shelf": {
        "Shelf(kinds)": [
            "lay(name, strip)", "names()", "shown(name)", "take(name)", "put(name, letter)", "drop(name)",
            "back(name)", "ranked(strip)",
        ],
    },
    "desk": {"Desk(kinds)": ["say(line)"]},
}


def name_of(told):
    return told.split("(")[0]


def as_told(name, thing):
    parameters = [part for part in inspect.signature(thing).parameters if part != "self"]
    return name + "(" + ", ".join(parameters) + ")"


class TestInterface(unittest.TestCase):
    def test_functions(self):
        for module, functions in FUNCTIONS.items():
            found = importlib.import_module("lackword." + module)
            for told in functions:
                self.assertEqual(as_told(name_of(told), getattr(found, name_of(told))), told, module)

    def test_classes_and_their_methods(self):
        for module, classes in CLASSES.items():
            found = importlib.import_module("lackword." + module)
            for told, methods in classes.items():
                made = getattr(found, name_of(told))
                self.assertEqual(as_told(name_of(told), made), told, module)
                for method in methods:
                    self.assertEqual(as_told(name_of(method), getattr(made, name_of(method))), method, told)
