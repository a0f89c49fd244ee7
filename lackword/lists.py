"""Lists of words, the words that avoid them, and what shows that a list belongs to no strip."""

from lackword.errors import NoList
from lackword.kinds import MOST_IN_STRIP, has_only, is_word, need_kinds

MOST_WORDS = 200
# No missing word has more letters than its strip and one.
MOST_IN_LIST = 41


def need_list(words, kinds):
    need_kinds(kinds)
    if not isinstance(words, list) or len(words) > MOST_WORDS:
        raise NoList(None)
    ahead = {}
    for word in words:
        # What is no text may not be asked for in a dict.
        if not is_word(word, kinds, MOST_IN_LIST) or word == "" or word in ahead:
            raise NoList(word)
        ahead[word] = True


def avoids(words, word):
    return not any([piece in word for piece in words])


def shows_inside(words, one, other):
    return one in words and other in words and one != other and one in other


def shows_endless(words, kinds, head, lap):
    if lap == "" or not has_only(head + lap, kinds):
        return False
    # A word of the list that stands somewhere in the laps also stands where
    # it begins within the head or the first lap.
    longest = max([len(word) for word in words], default=0)
    return avoids(words, head + lap * (longest // len(lap) + 2))


def shows_long(words, kinds, word):
    return has_only(word, kinds) and len(word) > MOST_IN_STRIP and avoids(words, word)


def can_be_longer(words, kinds, word):
    return any([avoids(words, letter + word) or avoids(words, word + letter) for letter in kinds])


def shows_split(words, kinds, one, other):
    if not has_only(one + other, kinds) or not avoids(words, one) or not avoids(words, other):
        return False
    return other not in one and not can_be_longer(words, kinds, one)
