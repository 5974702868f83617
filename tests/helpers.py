"""What several test files need: wrong things of every kind, all short words, and words as tables of numbers."""

import itertools


class CallsItselfEqual:
    def __eq__(self, other):
        return True

    def __hash__(self):
        return 0


class WillNotBeCompared:
    __hash__ = None

    def __eq__(self, other):
        raise RuntimeError("compared")

    def __len__(self):
        raise RuntimeError("measured")

    def __bool__(self):
        raise RuntimeError("asked for its truth")

    def __iter__(self):
        raise RuntimeError("walked")


def things_of_every_kind():
    """Things that are neither a word, nor a fraction, nor a step, nor a whole number."""
    return [
        None, True, False, Ellipsis, NotImplemented, 0.0, 1.0, float("nan"), float("inf"), 1j,
        b"", b"t", bytearray(b"t"), memoryview(b"t"), [], ["t"], [1, 2], ["in", 0, "tu"],
        (), (None,), (None, None), (None, None, None), {}, {"t": 1}, {0: 1, 1: 2}, set(), {"t"}, frozenset({1, 2}),
        range(2), iter("t"), (letter for letter in "t"), zip(), object(), object, int, str, len, lambda: "t",
        ValueError("t"), slice(0, 1), CallsItselfEqual(), WillNotBeCompared(),
    ]


def words_up_to(length):
    for size in range(length + 1):
        for letters in itertools.product("tur", repeat=size):
            yield "".join(letters)


TABLES = {"t": (1, 1, 0, 1), "u": (1, -1, 0, 1), "r": (0, -1, 1, 0)}


def table(word):
    """The word's table of four numbers, told with one of its two signs: words are alike if their tables are equal."""
    a, b, c, d = 1, 0, 0, 1
    for letter in word:
        p, q, r, s = TABLES[letter]
        a, b, c, d = p * a + q * c, p * b + q * d, r * a + s * c, r * b + s * d
    return max((a, b, c, d), (-a, -b, -c, -d))


def led_by_table(word, fraction):
    a, b, c, d = table(word)
    above = a * fraction[0] + b * fraction[1]
    below = c * fraction[0] + d * fraction[1]
    if below < 0 or (below == 0 and above < 0):
        return (-above, -below)
    return (above, below)


SOME_FRACTIONS = [(0, 1), (1, 0), (1, 1), (-1, 1), (1, 2), (-1, 2), (3, 2), (-7, 3), (5, 8), (22, 7), (-355, 113)]
