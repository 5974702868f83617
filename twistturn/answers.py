"""What is told of dances and of pairs of fractions; each answer can be asked whether it shows what it tells."""

from twistturn.words import after_step, begun_by, can_step, follow, is_quiet, is_round, is_same_round, is_whole
from twistturn.words import lead_alike


class Answer:
    pass


class Alike(Answer):
    def __init__(self, steps):
        self.steps = list(steps)

    def shows(self, one, other):
        word = one
        for step in self.steps:
            if not can_step(word, step):
                return False
            word = after_step(word, step)
        return word == other


class Unlike(Answer):
    def __init__(self, fraction):
        self.fraction = fraction

    def shows(self, one, other):
        return follow(one, self.fraction) != follow(other, self.fraction)


class Quiet(Answer):
    def __init__(self, many):
        self.many = many

    def shows(self, dance):
        # Asked before anything is danced: a count of any size may stand here.
        if not is_whole(self.many) or self.many not in (1, 2, 3):
            return False
        for fewer in range(1, self.many):
            if is_quiet(dance * fewer):
                return False
        return is_quiet(dance * self.many)


class Onward(Answer):
    def __init__(self, fraction):
        self.fraction = fraction

    def shows(self, dance):
        return follow(dance * 6, self.fraction) != self.fraction


class Led(Answer):
    def __init__(self, word):
        self.word = word

    def shows(self, pair, other):
        return follow(self.word, pair[0]) == other[0] and follow(self.word, pair[1]) == other[1]


class Parts(Answer):
    def __init__(self, there, back):
        self.there = there
        self.back = back

    def shows(self, pair, other):
        if not parts_pair(self.there, pair) or not parts_pair(self.back, other):
            return False
        return follow(self.there, pair[1]) != follow(self.back, other[1])


class Elsewhere(Answer):
    def __init__(self, word):
        self.word = word

    def shows(self, one, other):
        return lead_alike(begun_by(self.word, other), one)


class Rounds(Answer):
    def __init__(self, there, first, back, second):
        self.there = there
        self.first = first
        self.back = back
        self.second = second

    def shows(self, one, other):
        if not is_round(self.first) or not is_round(self.second) or is_same_round(self.first, self.second):
            return False
        if not lead_alike(begun_by(self.there, self.first), one):
            return False
        return lead_alike(begun_by(self.back, self.second), other)


# Whether the word leads the pair's first one to the end, and its second one to a fraction from 0 on below 1.
def parts_pair(word, pair):
    second = follow(word, pair[1])
    return follow(word, pair[0]) == (1, 0) and 0 <= second[0] < second[1]
