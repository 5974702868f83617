"""The plainest word of a dance, with steps that lead to it, and the round that a dance goes."""

from twistturn.words import back

PAIRS_OUT = ("tu", "ut", "rr")

# By these steps, their places counted from the three letters on, trt becomes rur and uru becomes rtr.
OVER = {
    "trt": (("in", 3, "rr"), ("in", 4, "tu"), ("in", 5, "rr"), ("out", 0, "trtrtr")),
    "uru": (("in", 1, "trtrtr"), ("out", 0, "ut"), ("out", 4, "rr"), ("out", 3, "tu")),
}

# A dance is taken apart into beats: r, twice quiet, and tr and ru, which are each other backwards, thrice quiet.
BEATS = {"t": ("tr", "r"), "u": ("r", "ru"), "r": ("r",)}

# What two beats behind one another come to, if that is one beat or none.
TOGETHER = {"rr": "", "trtr": "ru", "ruru": "tr", "trru": "", "rutr": ""}


# The plainest word

# The plainest word, and steps that lead to it. Alike words have the same plainest word, and none of them is shorter:
# since neither tu, ut and rr nor trt and uru stand in it, runs of t and runs of u take turns in it with a single r
# between, and no two such words are alike.
def made_plain(word):
    letters = []
    steps = []
    for letter in word:
        letters.append(letter)
        settle(letters, steps)
    return ("".join(letters), steps)


def settle(letters, steps):
    if "".join(letters[-2:]) in PAIRS_OUT:
        take_pair(letters, steps)
    elif "".join(letters[-3:]) in OVER:
        turn_over(letters, steps)


def take_pair(letters, steps):
    second = letters.pop()
    first = letters.pop()
    steps.append(("out", len(letters), first + second))


def turn_over(letters, steps):
    three = "".join(letters[-3:])
    for letter in three:
        letters.pop()
    at = len(letters)
    for step in OVER[three]:
        steps.append((step[0], at + step[1], step[2]))
    # Only the r that now comes first can meet its like: ahead of trt stands no u, and ahead of rtrt no t.
    letters.append("r")
    settle(letters, steps)
    letters.append(back(three[0]))
    letters.append("r")


def undone(steps):
    return [("in" if step[0] == "out" else "out", step[1], step[2]) for step in reversed(steps)]


# Rounds

def add_beat(beats, beat):
    both = beats[-1] + beat if beats else ""
    if both not in TOGETHER:
        beats.append(beat)
        return
    beats.pop()
    if TOGETHER[both] != "":
        beats.append(TOGETHER[both])


# In what is left r takes turns with tr and ru.
def beats_of(word):
    beats = []
    for letter in word:
        for beat in BEATS[letter]:
            add_beat(beats, beat)
    return beats


# A word and a round, such that the round, begun elsewhere by the word, is alike to the dance. A beat that goes from
# the front to behind all the others goes to that word: the rest, begun elsewhere by the beat, is what was there.
def word_and_round(dance):
    beats = beats_of(dance)
    first = 0
    while len(beats) - first > 1 and (beats[first] != "r" or beats[-1] == "r"):
        add_beat(beats, beats[first])
        first += 1
    return ("".join(beats[:first]), "".join(beats[first:]))
