"""Fractions: tuples (top, bottom) of whole numbers that no whole number above 1 divides both."""


def greatest_divisor(one, other):
    while other > 0:
        rest = one % other
        one = other
        other = rest
    return one


def fraction(top, bottom):
    # Nought is divided by every whole number, so its bottom becomes 1.
    divisor = greatest_divisor(top, bottom)
    return (top // divisor, bottom // divisor)


def plus(one, other):
    return fraction(one[0] * other[1] + other[0] * one[1], one[1] * other[1])


def below(one, other):
    return one[0] * other[1] < other[0] * one[1]
