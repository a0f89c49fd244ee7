"""From a list of words back to the strip whose missing words they are."""

from lackword.bands import Plain
from lackword.errors import Endless, Inside, Split, TooLong
from lackword.kinds import MOST_IN_STRIP
from lackword.lists import avoids, need_list
from lackword.places import in_order

# A stem is a beginning of a word of the list, the word itself left out; the
# empty word is one always. Of a word that avoids the list only the longest
# stem that ends it says which letters may come next. So the words that avoid
# the list are gone along ways from stem to stem, beginning at the empty one,
# and there are no more stems than the words have letters, and one.


def refuse_inside(words):
    for other in words:
        for one in words:
            if one != other and one in other:
                raise Inside(one, other)


def stems_of(words):
    stems = {"": True}
    for word in words:
        for size in range(1, len(word)):
            stems[word[:size]] = True
    return stems


def ending_stem(stems, text):
    start = 0
    while text[start:] not in stems:
        start += 1
    return text[start:]


def ways_between(words, kinds):
    # Stem by stem a dict is told, from the letters that may come next to the
    # stems to which they lead.
    stems = stems_of(words)
    ways = {}
    for stem in stems:
        onward = [letter for letter in kinds if avoids(words, stem + letter)]
        ways[stem] = dict([(letter, ending_stem(stems, stem + letter)) for letter in onward])
    return ways


def stems_that_end(ways):
    # Told are the stems from which one can't go on for ever, each behind all
    # those to which its ways lead: so what hangs on these can be made first.
    sources = {}
    left = {}
    for stem in ways:
        left[stem] = len(ways[stem])
        for reached in ways[stem].values():
            sources.setdefault(reached, []).append(stem)
    ended = [stem for stem in ways if left[stem] == 0]
    at = 0
    while at < len(ended):
        reached = ended[at]
        for stem in sources.get(reached, []):
            left[stem] -= 1
            if left[stem] == 0:
                ended.append(stem)
        at += 1
    return ended


def refuse_endless(ways, ended):
    # Each stem that does not end has a way to another such stem, and they
    # are not without end: a stem is met again before as many letters are
    # gone as there are stems, and one.
    stopping = dict([(stem, True) for stem in ended])
    stem = ""
    gone = ""
    met = {}
    while stem not in met:
        met[stem] = len(gone)
        letter = [each for each in ways[stem] if ways[stem][each] not in stopping][0]
        stem = ways[stem][letter]
        gone = gone + letter
    raise Endless(gone[:met[stem]], gone[met[stem]:])


def longest_word(ways, ended):
    # The stems to which a stem's ways lead come ahead of it.
    longest = {}
    for stem in ended:
        longest[stem] = ""
        for letter in ways[stem]:
            word = letter + longest[ways[stem][letter]]
            if len(word) > len(longest[stem]):
                longest[stem] = word
    return longest[""]


def refuse_split(words, kinds, text):
    # Where a word that avoids the list doesn't stand in the text, a missing
    # word of the text is inside it, which avoids the list too.
    for word in Plain(text, kinds).lacking():
        if avoids(words, word):
            raise Split(text, word)


def strip_of(words, kinds):
    need_list(words, kinds)
    # In order, so that a list is answered alike however it is told.
    ordered = in_order(words)
    refuse_inside(ordered)
    ways = ways_between(ordered, kinds)
    ended = stems_that_end(ways)
    if "" not in ended:
        refuse_endless(ways, ended)
    text = longest_word(ways, ended)
    if len(text) > MOST_IN_STRIP:
        raise TooLong(text[:MOST_IN_STRIP + 1])
    refuse_split(ordered, kinds, text)
    return text
