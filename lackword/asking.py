"""Words asked for: where a word stands, how often, or which missing word keeps it from standing."""

from lackword.errors import NoLength
from lackword.kinds import MOST_ASKED, need_word
from lackword.lacking import inside
from lackword.places import places
from lackword.whole import is_within


def ask(band, word):
    place = band.place_of(word)
    if place is not None:
        return ("there", place)
    found = inside(band.lacking(), word)
    return ("lacks", found[0], found[1])


def all_places(strip, word):
    need_word(word, strip.kinds(), MOST_ASKED)
    return places(strip.text(), word)


def how_often(strip, word):
    return len(all_places(strip, word))


def first_place(strip, word):
    return strip.place_of(word)


def last_place(strip, word):
    found = all_places(strip, word)
    return found[-1] if len(found) > 0 else None


def oftenest(strip, length):
    if not is_within(length, 1, len(strip.text())):
        raise NoLength(length)
    # max keeps the first of several, and the words are in order.
    word = max(strip.words(length), key=lambda each: how_often(strip, each))
    return (word, how_often(strip, word))
