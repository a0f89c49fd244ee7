"""The lines that are told to a desk: which words they have, and what these say."""

from lackword.errors import NoLine
from lackword.kinds import SMALL_LETTERS, has_only
from lackword.shelf import is_name

FIGURES = "0123456789"
MOST_FIGURES = 3
EMPTY_WORD = "-"

# What stands behind the first word of a line. Two dots: what is ahead of
# them may come more than once.
FORMS = {
    "strip": ("NAME",),
    "take": ("NAME",),
    "put": ("NAME", "LETTERS"),
    "drop": ("NAME",),
    "back": ("NAME",),
    "from": ("NAME", "LETTERS", ".."),
    "names": (),
    "text": ("NAME",),
    "lacks": ("NAME",),
    "ask": ("NAME", "LETTERS"),
    "often": ("NAME", "LETTERS"),
    "most": ("NAME", "NUMBER"),
    "lone": ("NAME", "NUMBER"),
    "rooms": ("NAME",),
    "near": ("NAME",),
    "ring": ("LETTERS",),
    "same": ("LETTERS", "LETTERS"),
}


def is_letters(word):
    return word == EMPTY_WORD or (word != "" and has_only(word, SMALL_LETTERS))


def is_number(word):
    if word == "" or len(word) > MOST_FIGURES or not has_only(word, FIGURES):
        return False
    return word == "0" or word[0] != "0"


def is_as_told(word, form):
    if form == "NAME":
        return is_name(word)
    if form == "NUMBER":
        return is_number(word)
    return is_letters(word)


def forms_of(verb, many):
    forms = list(FORMS[verb])
    if ".." not in forms:
        return forms
    needed = forms[:-1]
    return needed + needed[-1:] * (many - len(needed))


def is_line(words):
    if words[0] not in FORMS:
        return False
    given = words[1:]
    forms = forms_of(words[0], len(given))
    return len(given) == len(forms) and all([is_as_told(given[at], forms[at]) for at in range(len(forms))])


def value_of(word):
    if is_number(word):
        return int(word)
    return "" if word == EMPTY_WORD else word


def read(line):
    # Told are the line's first word and, as a list, the values of the others.
    # Between two blanks, and at a blank's free side, a word without signs
    # stands, which no form takes.
    if not isinstance(line, str) or not is_line(line.split(" ")):
        raise NoLine("this is none of the lines that a desk is told")
    words = line.split(" ")
    return (words[0], [value_of(word) for word in words[1:]])
