"""Shelves: moving strips kept by names, and ranked by how near they are to a strip."""

from lackword.errors import NameThere, NoName
from lackword.kinds import SMALL_LETTERS, is_word, need_kinds
from lackword.nearness import distance, need_same_kinds
from lackword.shares import below

MOST_IN_NAME = 8


def is_name(thing):
    return is_word(thing, SMALL_LETTERS, MOST_IN_NAME) and thing != ""


class Shelf:
    def __init__(self, kinds):
        need_kinds(kinds)
        self.own_kinds = kinds
        self.own_strips = {}

    def kinds(self):
        return self.own_kinds

    def need_free(self, name):
        if not is_name(name):
            raise NoName(name)
        if name in self.own_strips:
            raise NameThere(name)

    def lay(self, name, strip):
        self.need_free(name)
        need_same_kinds(self, strip)
        self.own_strips[name] = strip.copied()

    def names(self):
        return sorted(self.own_strips)

    def kept(self, name):
        # What is no name may not be asked for in a dict.
        if not is_name(name) or name not in self.own_strips:
            raise NoName(name)
        return self.own_strips[name]

    def shown(self, name):
        return self.kept(name).copied()

    def take(self, name):
        strip = self.kept(name)
        self.own_strips.pop(name)
        return strip

    def put(self, name, letter):
        return self.kept(name).put(letter)

    def drop(self, name):
        return self.kept(name).drop()

    def back(self, name):
        return self.kept(name).back()

    def ranked(self, strip):
        need_same_kinds(self, strip)
        ranks = []
        for name in self.names():
            share = distance(strip, self.own_strips[name])
            # The names rise, so one comes behind all that are as near.
            ahead = [rank for rank in ranks if not below(share, rank[1])]
            ranks.insert(len(ahead), (name, share))
        return ranks
