"""Where words stand in a text, and the order of words."""


def places(text, word):
    size = len(word)
    return [start for start in range(len(text) - size + 1) if text[start:start + size] == word]


def in_order(words):
    return sorted(words, key=lambda word: (len(word), word))


def pieces(text, length):
    # All have one length, so Python's order of texts is the order of words.
    return sorted(set([text[start:start + length] for start in range(len(text) - length + 1)]))


def stretches(text):
    found = []
    for length in range(len(text) + 1):
        found.extend(pieces(text, length))
    return found
