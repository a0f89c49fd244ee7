"""Missing words, made anew from a strip's letters, and the first of some words inside another one."""

from lackword.bands import Plain
from lackword.kinds import MOST_ASKED, need_word


def lacks(text, word):
    return word not in text and word[1:] in text and word[:-1] in text


def lacking(text, kinds):
    return [(word, text.find(word[:-1]), text.find(word[1:])) for word in Plain(text, kinds).lacking()]


def is_lacking(text, kinds, word):
    strip = Plain(text, kinds)
    need_word(word, kinds, MOST_ASKED)
    return lacks(strip.text(), word)


def inside(words, word):
    for end in range(len(word) + 1):
        ending = [piece for piece in words if word[:end].endswith(piece)]
        if len(ending) > 0:
            missing = min(ending, key=len)
            return (missing, end - len(missing))
    return None
