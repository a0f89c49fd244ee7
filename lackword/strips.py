"""Strips that move: letters come at the right end, go from the left end, and the last deed is taken back."""

from lackword.bands import Band
from lackword.errors import Bare, Full, NoBack
from lackword.kinds import MOST_IN_STRIP, need_kinds, need_letter
from lackword.lacking import lacks
from lackword.places import in_order

# In these the lesser text is the longer one without its first or its last
# letter. A fresh word is one that stands in the longer text alone: it begins
# or ends this text, and stands at one place.


def fresh_words(lesser, longer):
    edges = []
    for size in range(1, len(longer) + 1):
        edges.append(longer[:size])
        edges.append(longer[len(longer) - size:])
    return in_order(sorted(set([word for word in edges if word not in lesser])))


def filled(lesser, longer, reason):
    # A missing word of the lesser text that stands in the longer one is a
    # fresh word without another one inside it: the first one alone.
    word = fresh_words(lesser, longer)[0]
    return [(word, (reason, longer.find(word)))]


def opened(lesser, longer, kinds, reason):
    # A missing word of the longer text that the lesser one does not have is
    # a fresh word and one letter more, at either end.
    found = {}
    for shorter in fresh_words(lesser, longer):
        told = (reason, shorter, longer.find(shorter))
        for letter in kinds:
            for word in [shorter + letter, letter + shorter]:
                if lacks(longer, word):
                    found[word] = told
    return [(word, found[word]) for word in in_order(list(found))]


class Strip(Band):
    def __init__(self, kinds):
        need_kinds(kinds)
        Band.__init__(self, "", kinds)
        self.own_lacking = list(kinds)
        self.own_deeds = []

    def lacking(self):
        return list(self.own_lacking)

    def deeds(self):
        return list(self.own_deeds)

    def put(self, letter):
        need_letter(letter, self.own_kinds)
        if len(self.own_text) >= MOST_IN_STRIP:
            raise Full("the strip has forty letters")
        self.own_deeds.append(("put", letter))
        return self.grow(self.own_text + letter)

    def drop(self):
        if self.own_text == "":
            raise Bare("the strip has no letter")
        self.own_deeds.append(("drop", self.own_text[0]))
        return self.shrink(self.own_text[1:])

    def back(self):
        if len(self.own_deeds) == 0:
            raise NoBack("there is no deed that stands")
        deed = self.own_deeds.pop()
        if deed[0] == "put":
            return self.shrink(self.own_text[:-1])
        return self.grow(deed[1] + self.own_text)

    def grow(self, longer):
        came = opened(self.own_text, longer, self.own_kinds, "first")
        went = filled(self.own_text, longer, "stands")
        return self.change(longer, came, went)

    def shrink(self, lesser):
        came = filled(lesser, self.own_text, "stood")
        went = opened(lesser, self.own_text, self.own_kinds, "last")
        return self.change(lesser, came, went)

    def change(self, text, came, went):
        gone = [told[0] for told in went]
        kept = [word for word in self.own_lacking if word not in gone]
        self.own_lacking = in_order(kept + [told[0] for told in came])
        self.own_text = text
        return (came, went)

    def copied(self):
        twin = Strip(self.own_kinds)
        twin.own_text = self.own_text
        twin.own_lacking = list(self.own_lacking)
        twin.own_deeds = list(self.own_deeds)
        return twin
