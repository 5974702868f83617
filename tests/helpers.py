"""What several test files need: wrong things of every kind, words of many sorts, and words as tables of numbers."""

import itertools
import random


class CallsItselfEqual:
    def __eq__(self, other):
        return True

    def __hash__(self):
        return 0


class WillNotBeCompared:
    __hash__ = None

    def __eq__(self, other):
        raise RuntimeError("compared")

    def __len__(self):
        raise RuntimeError("measured")

    def __bool__(self):
        raise RuntimeError("asked for its truth")

    def __iter__(self):
        raise RuntimeError("walked")


def things_of_every_kind():
    """Things that are neither a word, nor a fraction, nor a step, nor a whole number."""
    return [
        None, True, False, Ellipsis, NotImplemented, 0.0, 1.0, float("nan"), float("inf"), 1j,
        b"", b"t", bytearray(b"t"), memoryview(b"t"), [], ["t"], [1, 2], ["in", 0, "tu"],
        (), (None,), (None, None), (None, None, None), {}, {"t": 1}, {0: 1, 1: 2}, set(), {"t"}, frozenset({1, 2}),
        range(2), iter("t"), (letter for letter in "t"), zip(), object(), object, int, str, len, lambda: "t",
        ValueError("t"), slice(0, 1), CallsItselfEqual(), WillNotBeCompared(),
    ]


BAD_TEXTS = ["T", "x", "tx", "xt", "t u", " ", "t\n", "tur,", "0", "1/0", "\u0442", "t\x00", "\ud800", "in"]


def bad_words():
    return things_of_every_kind() + BAD_TEXTS + [0, 1, -1, 10 ** 40, (1, 0), ("in", 0, "tu"), ("t", "u")]


def bad_numbers():
    return things_of_every_kind() + ["", "1", "t"]


def bad_fractions():
    bad = things_of_every_kind() + ["", "t", "1/1", 0, 1, -1]
    bad += [(1,), (1, 2, 3), [1, 2], [1, 0], [0, 1], (1, 2, 1), ((1, 2),), ("1", "2"), (1, "2"), ((1,), (2,))]
    bad += [(True, 1), (1, True), (True, True), (True, False), (False, True), (True, 0), (1, False), (0, True)]
    bad += [(1.0, 2), (1, 2.0), (1.0, 0), (1, 0.0)]
    bad += [(0, 0), (-1, 0), (2, 0), (-2, 0), (0, 2), (0, -1), (1, -1), (-1, -1), (1, -2)]
    bad += [(2, 2), (2, 4), (-2, 4), (-3, 3), (6, 4), (3 * 10 ** 60, 9), (10 ** 50, 10 ** 40), (10 ** 50, 0)]
    bad += [(number, 1) for number in bad_numbers()] + [(1, number) for number in bad_numbers()]
    return bad


def words_of_refusals(asked, kind, things):
    """Every text that the refusals bear when each of these is asked."""
    told = set()
    for thing in things:
        try:
            asked(thing)
        except kind as refusal:
            told.add((str(refusal), repr(refusal)))
    return told


def words_up_to(length):
    for size in range(length + 1):
        for letters in itertools.product("tur", repeat=size):
            yield "".join(letters)


PIECES = ("tu", "ut", "rr", "trtrtr")
EXCHANGED = str.maketrans("tu", "ut")


def begun(by, word):
    """The word begun elsewhere, letter for letter."""
    return by + word + by[::-1].translate(EXCHANGED)


def chances(seed):
    """A source that gives the same row on every run."""
    return random.Random(seed)


def chance_word(chance, length):
    return "".join(chance.choice("tur") for _ in range(length))


def grown(chance, word, times):
    """An alike word: so many pieces are put in, each at some place."""
    for _ in range(times):
        at = chance.randrange(len(word) + 1)
        word = word[:at] + chance.choice(PIECES) + word[at:]
    return word


def with_one_letter_changed(chance, word):
    at = chance.randrange(len(word))
    return word[:at] + chance.choice([letter for letter in "tur" if letter != word[at]]) + word[at + 1:]


def behind_steps(word, steps):
    """The word behind these steps, None if one of them is none on it."""
    for deed, at, piece in steps:
        if deed not in ("in", "out") or piece not in PIECES or not 0 <= at <= len(word):
            return None
        if deed == "in":
            word = word[:at] + piece + word[at:]
        elif word[at:at + len(piece)] == piece:
            word = word[:at] + word[at + len(piece):]
        else:
            return None
    return word


PIECES_OF_ROUNDS = ("rtr", "rru")
LONE_ROUNDS = ("", "r", "tr", "ru")


def is_round(word):
    if word in LONE_ROUNDS:
        return True
    return len(word) % 3 == 0 and all(word[at:at + 3] in PIECES_OF_ROUNDS for at in range(0, len(word), 3))


def rounds_up_to(pieces):
    told = list(LONE_ROUNDS)
    for size in range(1, pieces + 1):
        told += ["".join(row) for row in itertools.product(PIECES_OF_ROUNDS, repeat=size)]
    return told


def places(told):
    """The round told from each of its places."""
    if told in LONE_ROUNDS:
        return [told]
    return [told[at:] + told[:at] for at in range(0, len(told), 3)]


TABLES = {"t": (1, 1, 0, 1), "u": (1, -1, 0, 1), "r": (0, -1, 1, 0)}


def table(word):
    """The word's table of four numbers, told with one of its two signs: words are alike if their tables are equal."""
    a, b, c, d = 1, 0, 0, 1
    for letter in word:
        p, q, r, s = TABLES[letter]
        a, b, c, d = p * a + q * c, p * b + q * d, r * a + s * c, r * b + s * d
    return max((a, b, c, d), (-a, -b, -c, -d))


def led_by_table(word, fraction):
    a, b, c, d = table(word)
    above = a * fraction[0] + b * fraction[1]
    below = c * fraction[0] + d * fraction[1]
    if below < 0 or (below == 0 and above < 0):
        return (-above, -below)
    return (above, below)


SOME_FRACTIONS = [(0, 1), (1, 0), (1, 1), (-1, 1), (1, 2), (-1, 2), (3, 2), (-7, 3), (5, 8), (22, 7), (-355, 113)]
