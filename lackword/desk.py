"""A desk: a shelf of strips that is spoken to in lines and answers each with a text."""

from lackword.asking import ask, first_place, how_often, last_place, oftenest
from lackword.backing import strip_of
from lackword.lines import EMPTY_WORD, read
from lackword.lone import lone
from lackword.machine import Machine
from lackword.rings import Ring, same
from lackword.shelf import Shelf
from lackword.strips import Strip


def told_parts(parts):
    # The empty word and a list without words come to no signs, both alike.
    told = " ".join([str(part) for part in parts])
    return EMPTY_WORD if told == "" else told


def told_beside(one, other):
    return told_parts(one) + " / " + told_parts(other)


def told_change(change):
    return told_beside([told[0] for told in change[0]], [told[0] for told in change[1]])


def told_rank(rank):
    name = rank[0]
    top = rank[1][0]
    bottom = rank[1][1]
    return f"{name}:{top}/{bottom}"


# Each of these answers one line: given are the values behind its first word.


def answer_strip(shelf, given):
    shelf.lay(given[0], Strip(shelf.kinds()))
    return "ok"


def answer_take(shelf, given):
    shelf.take(given[0])
    return "ok"


def answer_put(shelf, given):
    return told_change(shelf.put(given[0], given[1]))


def answer_drop(shelf, given):
    return told_change(shelf.drop(given[0]))


def answer_back(shelf, given):
    return told_change(shelf.back(given[0]))


def answer_from(shelf, given):
    # A name that is there is refused ahead of the list.
    shelf.need_free(given[0])
    text = strip_of(given[1:], shelf.kinds())
    strip = Strip(shelf.kinds())
    for letter in text:
        strip.put(letter)
    shelf.lay(given[0], strip)
    return told_parts([text])


def answer_names(shelf, given):
    return told_parts(shelf.names())


def answer_text(shelf, given):
    return told_parts([shelf.shown(given[0]).text()])


def answer_lacks(shelf, given):
    return told_parts(shelf.shown(given[0]).lacking())


def answer_ask(shelf, given):
    return told_parts(ask(shelf.shown(given[0]), given[1]))


def answer_often(shelf, given):
    strip = shelf.shown(given[0])
    word = given[1]
    times = how_often(strip, word)
    if times == 0:
        return told_parts([times])
    return told_parts([times, first_place(strip, word), last_place(strip, word)])


def answer_most(shelf, given):
    return told_parts(oftenest(shelf.shown(given[0]), given[1]))


def answer_lone(shelf, given):
    return told_parts(lone(shelf.shown(given[0]), given[1]))


def answer_rooms(shelf, given):
    machine = Machine(shelf.shown(given[0]).text(), shelf.kinds())
    return told_parts([machine.rooms(), machine.ways()])


def answer_near(shelf, given):
    ranks = shelf.ranked(shelf.shown(given[0]))
    return told_parts([told_rank(rank) for rank in ranks])


def answer_ring(shelf, given):
    ring = Ring(given[0], shelf.kinds())
    return told_beside([ring.root()], ring.lacking())


def answer_same(shelf, given):
    one = Ring(given[0], shelf.kinds())
    other = Ring(given[1], shelf.kinds())
    return told_parts(same(one, other))


ANSWERS = {
    "strip": answer_strip,
    "take": answer_take,
    "put": answer_put,
    "drop": answer_drop,
    "back": answer_back,
    "from": answer_from,
    "names": answer_names,
    "text": answer_text,
    "lacks": answer_lacks,
    "ask": answer_ask,
    "often": answer_often,
    "most": answer_most,
    "lone": answer_lone,
    "rooms": answer_rooms,
    "near": answer_near,
    "ring": answer_ring,
    "same": answer_same,
}


class Desk:
    def __init__(self, kinds):
        self.own_shelf = Shelf(kinds)

    def say(self, line):
        told = read(line)
        answer = ANSWERS[told[0]]
        return answer(self.own_shelf, told[1])
