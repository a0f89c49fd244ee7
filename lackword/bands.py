"""Bands: what strips and rings have in common, and the plain strip."""

from lackword.kinds import MOST_ASKED, MOST_IN_STRIP, need_kinds, need_word
from lackword.places import pieces, places


def lacking_among(shorter, standing, kinds):
    # Both lists hold words of one length each, so what is told is in order:
    # the heads rise, and so do the letters behind each head.
    found = []
    for head in shorter:
        for letter in kinds:
            word = head + letter
            if word[1:] in shorter and word not in standing:
                found.append(word)
    return found


class Band:
    def __init__(self, text, kinds):
        self.own_text = text
        self.own_kinds = kinds

    def kinds(self):
        return self.own_kinds

    def text(self):
        return self.own_text

    def laid_out(self, length):
        # The letters in which words of this length stand just where they
        # stand in the band; a ring has to be cut open for it.
        return self.own_text

    def words(self, length):
        return pieces(self.laid_out(length), length)

    def stands(self, word):
        return self.place_of(word) is not None

    def place_of(self, word):
        need_word(word, self.own_kinds, MOST_ASKED)
        found = places(self.laid_out(len(word)), word)
        return found[0] if found else None

    def reach(self):
        return len(self.own_text) + 1

    def lacking(self):
        # A missing word is a standing word and one letter more, so lengths
        # are walked one by one, each with the words that are one shorter.
        found = []
        shorter = self.words(0)
        for length in range(1, self.reach() + 1):
            standing = self.words(length)
            found.extend(lacking_among(shorter, standing, self.own_kinds))
            shorter = standing
        return found


class Plain(Band):
    def __init__(self, text, kinds):
        need_kinds(kinds)
        need_word(text, kinds, MOST_IN_STRIP)
        Band.__init__(self, text, kinds)
