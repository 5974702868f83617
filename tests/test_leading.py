import inspect
import itertools
import math
import unittest

from helpers import SOME_FRACTIONS, bad_fractions, chance_word, chances, led_by_table, things_of_every_kind
from helpers import words_of_refusals, words_up_to
from twistturn.answers import Led, Parts
from twistturn.errors import BadFraction, Same
from twistturn.leading import led, word_to
from twistturn.words import danced

END = (1, 0)
NOUGHT = (0, 1)
SMALL = [END] + [(a, b) for b in range(1, 6) for a in range(-7, 8) if math.gcd(a, b) == 1]

BIG = 10 ** 60
# Numbers so large that no word has room to lead these to 0, yet short words lead them to others.
FAR = [
    (BIG, 1), (-BIG, 1), (1, BIG), (-1, BIG), (BIG - 1, BIG), (1 - BIG, BIG), (BIG + 1, BIG), (-BIG - 1, BIG),
    (2 * BIG + 1, 2), (-2 * BIG - 1, 2), (BIG * BIG + 1, BIG), (BIG, BIG * BIG + 1), (BIG, 2 * BIG + 1),
    (BIG * BIG + 1, BIG ** 3 + 2 * BIG),
]


def chance_fraction(chance, figures):
    while True:
        a = chance.randrange(-10 ** figures, 10 ** figures)
        b = chance.randrange(1, 10 ** figures)
        if math.gcd(a, b) == 1:
            return (a, b)


def fraction_of_runs(runs):
    """A fraction of large numbers that a word of some few letters leads to the end: runs of such lengths do."""
    a, b = END
    for run in reversed(runs):
        a, b = run * a + b, a
    return (a, b)


class Leading(unittest.TestCase):
    def leads(self, one, other):
        word = word_to(one, other)
        self.assertIs(type(word), str)
        self.assertEqual(danced(word, one), other, (one, other))
        self.assertEqual(led_by_table(word, one), other, (one, other))
        return word

    def told_led(self, pair, other):
        answer = led(pair, other)
        self.assertIs(type(answer), Led, (pair, other))
        self.assertIs(type(answer.word), str)
        for one, to in zip(pair, other):
            self.assertEqual(danced(answer.word, one), to, (pair, other))
            self.assertEqual(led_by_table(answer.word, one), to, (pair, other))
        self.assertIs(answer.shows(pair, other), True)
        return answer

    def told_parts(self, pair, other):
        answer = led(pair, other)
        self.assertIs(type(answer), Parts, (pair, other))
        self.assertEqual([type(answer.there), type(answer.back)], [str, str])
        seconds = []
        for word, two in ((answer.there, pair), (answer.back, other)):
            self.assertEqual(danced(word, two[0]), END, (pair, other))
            self.assertEqual(led_by_table(word, two[0]), END, (pair, other))
            a, b = led_by_table(word, two[1])
            self.assertEqual(danced(word, two[1]), (a, b))
            self.assertTrue(0 <= a < b, (pair, other))
            seconds.append((a, b))
        self.assertNotEqual(seconds[0], seconds[1])
        self.assertIs(answer.shows(pair, other), True)
        return answer

    def told_of_pairs(self, pair, other):
        if type(led(pair, other)) is Led:
            self.told_led(pair, other)
            return True
        self.told_parts(pair, other)
        return False


class Interface(unittest.TestCase):
    def test_names_of_arguments(self):
        self.assertEqual(list(inspect.signature(word_to).parameters), ["one", "other"])
        self.assertEqual(list(inspect.signature(led).parameters), ["pair", "other"])

    def test_by_name(self):
        self.assertEqual(danced(word_to(one=(1, 2), other=(2, 3)), (1, 2)), (2, 3))
        self.assertTrue(led(pair=(NOUGHT, END), other=(END, NOUGHT)).shows((NOUGHT, END), (END, NOUGHT)))


class WordTo(Leading):
    def test_all_pairs_of_small_fractions(self):
        for one, other in itertools.product(SMALL, repeat=2):
            self.leads(one, other)

    def test_to_itself(self):
        for fraction in SMALL + SOME_FRACTIONS + FAR:
            self.leads(fraction, fraction)

    def test_the_end_and_nought(self):
        self.leads(END, NOUGHT)
        self.leads(NOUGHT, END)
        for fraction in SOME_FRACTIONS:
            for place in (END, NOUGHT):
                self.leads(place, fraction)
                self.leads(fraction, place)

    def test_a_far_whole_number(self):
        self.leads((0, 1), (100000, 1))
        self.leads((-100000, 1), (1, 100000))
        self.leads(END, (99999, 100000))

    def test_large_numbers(self):
        chance = chances(41)
        for _ in range(20):
            one = fraction_of_runs([chance.randrange(1, 9) for _ in range(100)])
            other = fraction_of_runs([chance.randrange(1, 9) for _ in range(90)])
            self.assertGreater(one[1], 10 ** 30)
            self.leads(one, other)
            self.leads((-one[0], one[1]), other)
            self.leads(one, (-other[1], other[0]))

    def test_numbers_of_sixty_figures(self):
        chance = chances(42)
        for _ in range(10):
            self.leads(chance_fraction(chance, 60), chance_fraction(chance, 60))

    def test_where_there_is_room_for_a_short_word_one_is_told(self):
        for one in FAR:
            for word in words_up_to(4):
                other = led_by_table(word, one)
                self.assertLess(len(self.leads(one, other)), 20)

    def test_words_are_not_much_longer_than_need_be(self):
        for one in SMALL:
            for word in words_up_to(4):
                self.assertLess(len(self.leads(one, led_by_table(word, one))), 20)


class LedTold(Leading):
    def test_all_pairs_of_some_fractions(self):
        fractions = [END, NOUGHT, (1, 1), (-1, 1), (1, 2), (-2, 3), (7, 5)]
        pairs = list(itertools.permutations(fractions, 2))
        # Pairs are led to one another only if their numbers, multiplied crosswise, differ by as much.
        for pair, other in itertools.product(pairs, repeat=2):
            sizes = [abs(two[0][0] * two[1][1] - two[0][1] * two[1][0]) for two in (pair, other)]
            there = self.told_of_pairs(pair, other)
            self.assertEqual(there, self.told_of_pairs(other, pair))
            if sizes[0] != sizes[1]:
                self.assertFalse(there)
            if sizes == [1, 1]:
                self.assertTrue(there)

    def test_pairs_that_short_words_lead_to_each_other(self):
        pairs = [(NOUGHT, END), (END, NOUGHT), ((1, 2), END), (NOUGHT, (2, 5)), ((-7, 3), (5, 8)), ((5, 8), (-7, 3))]
        for word in words_up_to(4):
            for pair in pairs:
                other = tuple(led_by_table(word, fraction) for fraction in pair)
                self.told_led(pair, other)
                self.told_led(other, pair)

    def test_pairs_that_are_not_led_to_each_other(self):
        half, third, two_thirds = (END, (1, 2)), (END, (1, 3)), (END, (2, 3))
        for pair, other in itertools.permutations([(END, NOUGHT), half, third, two_thirds], 2):
            self.told_parts(pair, other)
            for word in words_up_to(3):
                moved = tuple(led_by_table(word, fraction) for fraction in other)
                self.told_parts(pair, moved)
                self.told_parts(moved, pair)

    def test_the_end_first_and_last(self):
        for fraction in SMALL[1:]:
            self.told_led((END, fraction), (END, (fraction[0] + 5 * fraction[1], fraction[1])))
            self.told_of_pairs((END, fraction), (fraction, END))
            self.told_of_pairs((END, fraction), (NOUGHT, END))

    def test_exchanged(self):
        self.told_led((NOUGHT, END), (END, NOUGHT))
        self.told_led((END, NOUGHT), (NOUGHT, END))
        self.told_led((END, (1, 2)), ((1, 2), END))
        self.told_led((END, (2, 5)), ((2, 5), END))
        self.told_parts((END, (1, 3)), ((1, 3), END))
        self.told_parts((END, (2, 7)), ((2, 7), END))
        for one, other in itertools.combinations(SMALL[:20], 2):
            self.told_of_pairs((one, other), (other, one))

    def test_to_itself(self):
        for pair in itertools.permutations(SOME_FRACTIONS, 2):
            self.told_led(pair, pair)

    def test_seconds_at_the_edges(self):
        self.told_parts((END, (5, 1)), (END, (1, 2)))
        self.told_parts((END, (-5, 1)), (END, (-1, 2)))
        self.told_parts((END, (99, 100)), (END, (1, 100)))
        self.told_led((END, (-1, 100)), (END, (99, 100)))
        self.told_led((END, (-5, 1)), (END, (7, 1)))

    def test_large_numbers(self):
        chance = chances(51)
        for _ in range(20):
            pair = tuple(fraction_of_runs([chance.randrange(1, 9) for _ in range(60)]) for _ in range(2))
            word = chance_word(chance, 100)
            other = tuple(led_by_table(word, fraction) for fraction in pair)
            self.told_led(pair, other)
            self.told_led(other, pair)
            self.told_of_pairs(pair, (other[1], other[0]))
            self.told_parts(pair, (END, (1, 2)))
            self.told_parts((END, NOUGHT), other)

    def test_where_there_is_room_for_a_short_word_one_is_told(self):
        for one, second in itertools.product(FAR, [NOUGHT, END, (1, 1), (5, 3), (BIG + 3, 1), (-BIG, 2 * BIG + 1)]):
            for word in words_up_to(3):
                pair = (one, second)
                self.assertLess(len(self.told_led(pair, tuple(led_by_table(word, two) for two in pair)).word), 20)
                pair = (second, one)
                self.assertLess(len(self.told_led(pair, tuple(led_by_table(word, two) for two in pair)).word), 20)

    def test_parts_of_large_numbers(self):
        self.told_parts((END, (BIG - 1, BIG)), (END, (1, BIG)))
        self.told_parts((END, (BIG + 1, BIG)), (NOUGHT, (BIG, 1)))


def bad_pairs():
    """Things that are no tuple of two fractions."""
    bad = things_of_every_kind() + ["", "t", "tu", 0, 1, (1, 0), (0, 1), (1, 2)]
    bad += [(NOUGHT,), (NOUGHT, END, NOUGHT), (NOUGHT, END, None), [NOUGHT, END], ((NOUGHT, END),), ([0, 1], [1, 0])]
    bad += [{NOUGHT: END}, {0: NOUGHT, 1: END}, iter((NOUGHT, END)), "ab", ("0/1", "1/0")]
    bad += [((NOUGHT, END), (END, NOUGHT))]
    bad += [(fraction, END) for fraction in bad_fractions()] + [(NOUGHT, fraction) for fraction in bad_fractions()]
    bad += [(fraction, fraction) for fraction in ((2, 4), (True, 1), (0, 0), None, "t")]
    return bad


class Refusals(unittest.TestCase):
    def test_bad_fractions_of_word_to(self):
        for bad in bad_fractions():
            for one, other in ((bad, NOUGHT), (NOUGHT, bad), (bad, bad), (END, bad), (bad, 1)):
                with self.assertRaises(BadFraction):
                    word_to(one, other)

    def test_bad_pairs(self):
        good = (NOUGHT, END)
        for pair in bad_pairs():
            for one, other in ((pair, good), (good, pair), (pair, pair)):
                with self.assertRaises(BadFraction):
                    led(one, other)

    def test_two_alike_in_a_pair(self):
        good = (NOUGHT, END)
        for fraction in SOME_FRACTIONS + [(BIG, BIG + 1)]:
            same = (fraction, (fraction[0], fraction[1]))
            for one, other in ((same, good), (good, same), (same, same)):
                with self.assertRaises(Same):
                    led(one, other)

    def test_no_fraction_is_told_ahead_of_two_alike(self):
        same = (END, END)
        for pair in bad_pairs():
            for one, other in ((pair, same), (same, pair)):
                with self.assertRaises(BadFraction):
                    led(one, other)

    def test_their_words_tell_nothing_of_what_was_handed_in(self):
        good = (NOUGHT, END)
        sames = [(fraction, fraction) for fraction in SOME_FRACTIONS]
        for asked, kind, things in [
            (lambda fraction: word_to(fraction, END), BadFraction, bad_fractions()),
            (lambda fraction: word_to(END, fraction), BadFraction, bad_fractions()),
            (lambda pair: led(pair, good), BadFraction, bad_pairs()),
            (lambda pair: led(good, pair), BadFraction, bad_pairs()),
            (lambda pair: led(pair, good), Same, sames),
            (lambda pair: led(good, pair), Same, sames),
        ]:
            self.assertEqual(len(words_of_refusals(asked, kind, things)), 1)

    def test_nothing_handed_in_is_changed(self):
        for thing in ([NOUGHT, END], [0, 1], {0: NOUGHT, 1: END}, {NOUGHT, END}):
            was = thing.copy()
            for asked, good in ((led, (NOUGHT, END)), (word_to, NOUGHT)):
                with self.assertRaises(BadFraction):
                    asked(thing, good)
                with self.assertRaises(BadFraction):
                    asked(good, thing)
            self.assertEqual(thing, was)


if __name__ == "__main__":
    unittest.main()
