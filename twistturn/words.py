"""Fractions, words, steps on words, and rounds."""

from twistturn.errors import BadFraction, BadStep, BadWord

LETTERS = ("t", "u", "r")
EXCHANGED = {"t": "u", "u": "t", "r": "r"}

DEEDS = ("out", "in")
PIECES = ("tu", "ut", "rr", "trtrtr")

# Words that lead these three alike lead every fraction alike.
TELLING_FRACTIONS = ((0, 1), (1, 0), (1, 1))

LONE_ROUNDS = ("", "r", "tr", "ru")
ROUND_PIECES = ("rtr", "rru")


# What is a word, a fraction, a step

def is_whole(value):
    return isinstance(value, int) and not isinstance(value, bool)


def is_word(value):
    return isinstance(value, str) and all([letter in LETTERS for letter in value])


def common_divisor(one, other):
    larger = one
    smaller = other
    while smaller != 0:
        rest = larger % smaller
        larger = smaller
        smaller = rest
    return larger


def is_fraction(value):
    if not isinstance(value, tuple) or len(value) != 2:
        return False
    a = value[0]
    b = value[1]
    if not is_whole(a) or not is_whole(b):
        return False
    if b == 0:
        return a == 1
    return b > 0 and common_divisor(abs(a), b) == 1


def is_text_among(value, texts):
    # The kind is asked first: a thing of another kind may call itself equal to a text.
    return isinstance(value, str) and value in texts


def is_step(value):
    if not isinstance(value, tuple) or len(value) != 3:
        return False
    return is_text_among(value[0], DEEDS) and is_whole(value[1]) and is_text_among(value[2], PIECES)


def check_word(word):
    if not is_word(word):
        raise BadWord("a word is a text of letters t, u and r")


def check_fraction(fraction):
    if not is_fraction(fraction):
        raise BadFraction("a fraction is a pair of whole numbers in lowest terms, or the end")


# Dancing

def turned(a, b):
    if a > 0:
        return (-b, a)
    if a < 0:
        return (b, -a)
    return (1, 0)


def moved(letter, a, b):
    # The end needs no row of its own: its b is 0, so t and u leave it, and a turn makes it (0, 1).
    if letter == "t":
        return (a + b, b)
    if letter == "u":
        return (a - b, b)
    return turned(a, b)


# As danced, for what is known to be a word and a fraction: long words are not read through again.
def follow(word, fraction):
    here = (fraction[0], fraction[1])
    for letter in word:
        here = moved(letter, here[0], here[1])
    return here


def danced(word, fraction):
    check_word(word)
    check_fraction(fraction)
    return follow(word, fraction)


def lead_alike(one, other):
    return all([follow(one, fraction) == follow(other, fraction) for fraction in TELLING_FRACTIONS])


def is_quiet(word):
    return lead_alike(word, "")


def back(word):
    check_word(word)
    return "".join([EXCHANGED[letter] for letter in reversed(word)])


# Steps

def can_step(word, step):
    if not is_step(step):
        return False
    at = step[1]
    piece = step[2]
    if at < 0 or at > len(word):
        return False
    return step[0] == "in" or word[at:at + len(piece)] == piece


# As stepped, for a step that can_step has let through: rows of steps on long words stay quick.
def after_step(word, step):
    at = step[1]
    piece = step[2]
    if step[0] == "in":
        return word[:at] + piece + word[at:]
    return word[:at] + word[at + len(piece):]


def stepped(word, step):
    check_word(word)
    if not can_step(word, step):
        raise BadStep("there is no such step on this word")
    return after_step(word, step)


# Begun elsewhere, and rounds

def begun_by(start, word):
    return start + word + back(start)


def is_round(word):
    if word in LONE_ROUNDS:
        return True
    return all([word[at:at + 3] in ROUND_PIECES for at in range(0, len(word), 3)])


# Both are known to be rounds. Within a round neither rtr nor rru stands anywhere but where a piece begins,
# so the other, found anywhere in the one told twice, is found at one of its places.
def is_same_round(one, other):
    return len(one) == len(other) and other in one + one
