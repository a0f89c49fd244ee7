"""Kinds of letters, and the words that are made of them."""

from lackword.errors import NoKinds, NoWord

SMALL_LETTERS = "abcdefghijklmnopqrstuvwxyz"
MOST_KINDS = 4
MOST_IN_STRIP = 40
MOST_ASKED = 60


def has_only(text, letters):
    return all([sign in letters for sign in text])


def is_kinds(thing):
    if not isinstance(thing, str):
        return False
    if len(thing) < 1 or len(thing) > MOST_KINDS:
        return False
    return has_only(thing, SMALL_LETTERS) and list(thing) == sorted(set(thing))


def is_word(thing, kinds, most):
    return isinstance(thing, str) and len(thing) <= most and has_only(thing, kinds)


def is_letter(thing, kinds):
    return is_word(thing, kinds, 1) and len(thing) == 1


def need_kinds(thing):
    if not is_kinds(thing):
        raise NoKinds("kinds are one to four unlike small letters, rising")


def need_word(thing, kinds, most):
    if not is_word(thing, kinds, most):
        raise NoWord(thing)


def need_letter(thing, kinds):
    if not is_letter(thing, kinds):
        raise NoWord(thing)
