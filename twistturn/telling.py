"""What is told of dances: alike or unlike, quiet or onward, the same begun elsewhere or of unlike rounds."""

from twistturn.answers import Alike, Elsewhere, Onward, Quiet, Rounds, Unlike
from twistturn.plainest import made_plain, undone, word_and_round
from twistturn.words import TELLING_FRACTIONS, back, check_word, follow, is_quiet, is_same_round


# A fraction that the two words lead to unlike ones, None if they are alike.
def telling_fraction(one, other):
    for fraction in TELLING_FRACTIONS:
        if follow(one, fraction) != follow(other, fraction):
            return (fraction[0], fraction[1])
    return None


def alike(one, other):
    check_word(one)
    check_word(other)
    fraction = telling_fraction(one, other)
    if fraction is not None:
        return Unlike(fraction)
    return Alike(made_plain(one)[1] + undone(made_plain(other)[1]))


def comes_back(dance):
    check_word(dance)
    for many in (1, 2, 3):
        if is_quiet(dance * many):
            return Quiet(many)
    # A dance that isn't quiet by then is so by no count, thus not by six.
    return Onward(telling_fraction(dance * 6, ""))


def elsewhere(one, other):
    check_word(one)
    check_word(other)
    first = word_and_round(one)
    second = word_and_round(other)
    if not is_same_round(first[1], second[1]):
        return Rounds(made_plain(first[0])[0], first[1], made_plain(second[0])[0], second[1])
    # The first round is the second one with these letters put behind the others, so it is
    # the second one begun elsewhere by these letters backwards.
    behind = second[1][:(second[1] + second[1]).find(first[1])]
    return Elsewhere(made_plain(first[0] + back(behind) + back(second[0]))[0])
