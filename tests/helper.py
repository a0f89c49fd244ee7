"""What several tests share: wrong things to hand in, and plain second ways to the answers."""

import itertools

# Of every sort that may be handed in where a refusal is told; none tells
# kinds, none is a word over any kinds.
WRONG_THINGS = [
    0, 1, -1, 7, 10 ** 99, -(10 ** 99), True, False, None,
    " ", "a ", " a", "A", "aB", "1", "-", "~", "a1", "a-b", "ab!", "?" * 100,
    [], ["a"], ["a", "b"], [[]], [10 ** 99], [None],
    (), ("a",), ("a", "b"), ((),), (1, 2),
    {}, {"a": "b"}, {"a": 1}, {1: "a"}, {"kinds": ["a"]},
]

# Things of whatever sort, for the fields of refusals; the numbers have more
# figures than Python writes out.
ANY_THINGS = WRONG_THINGS + [
    "", "a", "ab", 10 ** 5000, -(10 ** 5000), [10 ** 5000], (10 ** 5000,), {10 ** 5000: [10 ** 5000]},
]


def all_texts(kinds, most):
    """Every text of these kinds with at most so many letters, in the order of words."""
    for length in range(most + 1):
        for letters in itertools.product(kinds, repeat=length):
            yield "".join(letters)


def lacking_by_definition(text, kinds, most):
    """Every word of at most so many letters is looked at, straight as missing words are defined."""
    return [
        word for word in all_texts(kinds, most)
        if word and word not in text and word[1:] in text and word[:-1] in text
    ]


def mixed_text(kinds, length):
    """A text without short repeats, the same on each run."""
    state, letters = 12345, []
    for _ in range(length):
        state = (state * 1103515245 + 12345) % 2 ** 31
        letters.append(kinds[(state >> 16) % len(kinds)])
    return "".join(letters)
