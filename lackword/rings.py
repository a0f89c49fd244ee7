"""Rings: letters that go round for ever."""

from lackword.bands import Band
from lackword.errors import NoRing, Unlike
from lackword.kinds import is_word, need_kinds

MOST_IN_RING = 20


class Ring(Band):
    def __init__(self, text, kinds):
        need_kinds(kinds)
        if not is_word(text, kinds, MOST_IN_RING) or text == "":
            raise NoRing(text)
        Band.__init__(self, text, kinds)

    def laid_out(self, length):
        # Once round, and so far on that a word may begin at the last letter.
        size = len(self.own_text)
        return (self.own_text * (length // size + 2))[:size + length - 1]

    def root(self):
        size = 1
        while self.own_text[:size] * (len(self.own_text) // size) != self.own_text:
            size += 1
        return self.own_text[:size]

    def reach(self):
        return len(self.root())

    def turned(self, by):
        start = by % len(self.own_text)
        return Ring(self.own_text[start:] + self.own_text[:start], self.own_kinds)


def first_unlike_word(one, other):
    # Of the length of the longer root the words are unlike at the latest: as
    # many stand as the root has letters, and where both roots have as many,
    # these words are the roots turned.
    length = 1
    while one.words(length) == other.words(length):
        length += 1
    return sorted(set(one.words(length)) ^ set(other.words(length)))[0]


def same(one, other):
    if one.kinds() != other.kinds():
        raise Unlike("the rings have unlike kinds")
    root = one.root()
    wanted = other.root()
    for turn in range(len(root)):
        if root[turn:] + root[:turn] == wanted:
            return ("same", root, turn)
    return ("unlike", first_unlike_word(one, other))
