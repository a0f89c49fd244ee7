"""Whole numbers within bounds."""


def is_within(thing, least, most):
    # True and False are ints for Python, but no whole numbers here.
    if isinstance(thing, bool) or not isinstance(thing, int):
        return False
    return least <= thing and thing <= most
