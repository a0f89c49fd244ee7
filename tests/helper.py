"""What several tests share: wrong things to hand in, and plain second ways to the answers."""

import itertools

from lackword.strips import Strip

# Of every sort that may be handed in where a refusal is told; none tells
# kinds, none is a word over any kinds.
WRONG_THINGS = [
    0, 1, -1, 7, 10 ** 99, -(10 ** 99), True, False, None,
    " ", "a ", " a", "A", "aB", "1", "-", "~", "a1", "a-b", "ab!", "?" * 100,
    [], ["a"], ["a", "b"], [[]], [10 ** 99], [None],
    (), ("a",), ("a", "b"), ((),), (1, 2),
    {}, {"a": "b"}, {"a": 1}, {1: "a"}, {"kinds": ["a"]},
]

# Things of whatever sort, for the fields of refusals; the numbers have more
# figures than Python writes out.
ANY_THINGS = WRONG_THINGS + [
    "", "a", "ab", 10 ** 5000, -(10 ** 5000), [10 ** 5000], (10 ** 5000,), {10 ** 5000: [10 ** 5000]},
]

# None is a whole number from 0 on with fewer than a hundred figures.
NO_NUMBERS = [thing for thing in WRONG_THINGS if isinstance(thing, bool) or not isinstance(thing, int)]
NO_NUMBERS += [-1, -7, 10 ** 99, -(10 ** 99), "", "0", "a", "ab", [0], (0,), {0: 0}]


def all_texts(kinds, most):
    """Every text of these kinds with at most so many letters, in the order of words."""
    for length in range(most + 1):
        for letters in itertools.product(kinds, repeat=length):
            yield "".join(letters)


def lacking_by_definition(text, kinds, most):
    """Every word of at most so many letters is looked at, straight as missing words are defined."""
    return [
        word for word in all_texts(kinds, most)
        if word and word not in text and word[1:] in text and word[:-1] in text
    ]


def mixed_text(kinds, length):
    """A text without short repeats, the same on each run."""
    state, letters = 12345, []
    for _ in range(length):
        state = (state * 1103515245 + 12345) % 2 ** 31
        letters.append(kinds[(state >> 16) % len(kinds)])
    return "".join(letters)


def edge_texts():
    """Texts of four kinds with up to 40 letters: the bounds, one letter repeated, short texts repeated, mixed ones."""
    forty = mixed_text("abcd", 40)
    return [
        "", "a", "d", "ab", "abcd", "dcba", "a" * 39, "a" * 40, "ab" * 20, "abc" * 13, "aab" * 13 + "a", "abcd" * 10,
        "a" * 39 + "b", "b" + "a" * 39, "a" * 20 + "b" * 20, forty, forty[:39], forty[:20] * 2, mixed_text("ab", 40),
        mixed_text("abd", 37), "abaababaabaababaababaabaababaabaababaaba"[:40], forty[:13] + "c" + forty[:13],
    ]


def lacking_of(text, kinds):
    """The missing words of a text of any length, from all its pieces."""
    pieces = {text[start:end] for start in range(len(text) + 1) for end in range(start, len(text) + 1)}
    longer = {piece + letter for piece in pieces for letter in kinds}
    found = [word for word in longer if word not in pieces and word[1:] in pieces]
    return sorted(found, key=lambda word: (len(word), word))


def made(text, kinds):
    """A strip that moves, to which these letters were put."""
    strip = Strip(kinds)
    for letter in text:
        strip.put(letter)
    return strip


def moved_to(text, kinds):
    """A strip with these letters that had another letter ahead of them."""
    strip = made(kinds[-1] + text[:1], kinds)
    strip.drop()
    for letter in text[1:]:
        strip.put(letter)
    return strip


def state(strip):
    return (strip.text(), strip.kinds(), strip.lacking(), strip.deeds())


def check_own_list(test, ask):
    """A list that was told is changed, then asked for again."""
    first = ask()
    kept = list(first)
    first.append("zz")
    first.reverse()
    test.assertEqual(ask(), kept)
    first.clear()
    test.assertEqual(ask(), kept)
