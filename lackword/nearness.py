"""How near two strips are: the missing words that only one of them has."""

from lackword.errors import Unlike
from lackword.places import in_order
from lackword.shares import fraction, plus


def need_same_kinds(one, other):
    if one.kinds() != other.kinds():
        raise Unlike("the kinds are not the same")


def reasons(one, other):
    need_same_kinds(one, other)
    first = one.lacking()
    second = other.lacking()
    words = in_order(sorted(set(first) ^ set(second)))
    return [(word, 0 if word in first else 1) for word in words]


def distance(one, other):
    total = fraction(0, 1)
    for reason in reasons(one, other):
        total = plus(total, fraction(1, len(reason[0]) ** 2))
    return total
