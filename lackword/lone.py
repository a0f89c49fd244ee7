"""Lone words: over each place of a strip the shortest stretch that stands at one place alone."""

from lackword.errors import NoPlace
from lackword.places import places
from lackword.whole import is_within


def starts_over(text, place, length):
    least = max(0, place - length + 1)
    most = min(place, len(text) - length)
    return list(range(least, most + 1))


def lone(strip, place):
    text = strip.text()
    if not is_within(place, 0, len(text) - 1):
        raise NoPlace(place)
    length = 1
    while True:
        for start in starts_over(text, place, length):
            word = text[start:start + length]
            if len(places(text, word)) == 1:
                return (start, word)
        length += 1


def second_place(text, start, length):
    found = places(text, text[start:start + length])
    return found[0] if found[0] != start else found[1]


def doubles(strip, place):
    # A stretch without letters lies over no place, so a lone word of one
    # letter has no doubles.
    length = len(lone(strip, place)[1]) - 1
    text = strip.text()
    return [(start, second_place(text, start, length)) for start in starts_over(text, place, length)]


def lone_all(strip):
    return [lone(strip, place) for place in range(len(strip.text()))]
