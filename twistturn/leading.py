"""Words that lead fractions, and pairs of fractions, to others.

Such words are kept as runs until they are told: whole numbers, each for so many letters t (u, if it is below 0),
with an r between each two. So a run may have any size as long as it doesn't stand in what is told.
"""

from twistturn.answers import Led, Parts
from twistturn.errors import BadFraction, Same
from twistturn.words import check_fraction, is_fraction, turned


# Runs

def letters_of(run):
    if run < 0:
        return "u" * -run
    return "t" * run


def spelled(runs):
    return "r".join([letters_of(run) for run in runs])


def follow_runs(runs, fraction):
    here = (fraction[0] + runs[0] * fraction[1], fraction[1])
    for run in runs[1:]:
        here = turned(here[0], here[1])
        here = (here[0] + run * here[1], here[1])
    return here


def backwards(runs):
    return [-run for run in reversed(runs)]


# The one and then the other; where they meet, what is quiet goes.
def joined(one, other):
    ahead = list(one)
    run = ahead.pop() + other[0]
    taken = 1
    while run == 0 and ahead and taken < len(other):
        run = ahead.pop() + other[taken]
        taken += 1
    return ahead + [run] + other[taken:]


# Each run leads towards 0 as near as it can without going past it, so runs of t and of u take turns. That keeps the
# runs few, however large the numbers are; ttrttrttr and so on, by runs of t alone, would not.
def runs_to_end(fraction):
    runs = []
    here = fraction
    while here[1] != 0:
        many = abs(here[0]) // here[1]
        run = many if here[0] < 0 else -many
        runs.append(run)
        here = turned(here[0] + run * here[1], here[1])
    return runs + [0]


# Runs that lead the pair's first one to the end and its second one to a fraction from 0 on below 1.
# There is but one dance that does so: what leaves the end at its place moves all the others by one whole number.
def runs_of_pair(pair):
    runs = runs_to_end(pair[0])
    second = follow_runs(runs, pair[1])
    return joined(runs, [-(second[0] // second[1])])


# What is told

def word_to(one, other):
    check_fraction(one)
    check_fraction(other)
    return spelled(joined(runs_to_end(one), backwards(runs_to_end(other))))


def is_pair(value):
    return isinstance(value, tuple) and len(value) == 2 and is_fraction(value[0]) and is_fraction(value[1])


def led(pair, other):
    if not is_pair(pair) or not is_pair(other):
        raise BadFraction("each pair is a tuple of two fractions")
    if pair[0] == pair[1] or other[0] == other[1]:
        raise Same("each pair is of two unlike fractions")
    there = runs_of_pair(pair)
    here = runs_of_pair(other)
    if follow_runs(there, pair[1]) == follow_runs(here, other[1]):
        return Led(spelled(joined(there, backwards(here))))
    return Parts(spelled(there), spelled(here))
