import inspect
import itertools
import unittest

from helpers import PIECES_OF_ROUNDS, bad_words, begun, behind_steps, chance_word, chances, grown, is_round
from helpers import led_by_table, places, rounds_up_to, table, with_one_letter_changed, words_of_refusals, words_up_to
from twistturn.answers import Alike, Elsewhere, Onward, Quiet, Rounds, Unlike
from twistturn.errors import BadWord
from twistturn.telling import alike, comes_back, elsewhere
from twistturn.words import back, danced

STARTS = ["", "r", "tr", "ru", "ttt", "rtr", "rru", "rtrrru", "uruttr", "t" * 40 + "r" + "u" * 30]


def is_fraction(value):
    return type(value) is tuple and [type(number) for number in value] == [int, int]


class Telling(unittest.TestCase):
    """What is told is gone through here by the tests' own means, and then by the answer's own shows."""

    def told_alike(self, one, other):
        answer = alike(one, other)
        self.assertIs(type(answer), Alike, (one, other))
        self.assertIs(type(answer.steps), list)
        for step in answer.steps:
            self.assertEqual([type(step)] + [type(part) for part in step], [tuple, str, int, str])
        self.assertEqual(behind_steps(one, answer.steps), other)
        self.assertIs(answer.shows(one, other), True)
        return answer

    def told_unlike(self, one, other):
        answer = alike(one, other)
        self.assertIs(type(answer), Unlike, (one, other))
        self.assertTrue(is_fraction(answer.fraction))
        self.assertNotEqual(danced(one, answer.fraction), danced(other, answer.fraction))
        self.assertNotEqual(led_by_table(one, answer.fraction), led_by_table(other, answer.fraction))
        self.assertIs(answer.shows(one, other), True)

    def told_quiet(self, dance, many):
        answer = comes_back(dance)
        self.assertIs(type(answer), Quiet, dance)
        self.assertIs(type(answer.many), int)
        self.assertEqual(answer.many, many, dance)
        for count in range(1, many + 1):
            self.assertEqual(table(dance * count) == table(""), count == many)
        self.assertIs(answer.shows(dance), True)

    def told_onward(self, dance):
        answer = comes_back(dance)
        self.assertIs(type(answer), Onward, dance)
        self.assertTrue(is_fraction(answer.fraction))
        self.assertNotEqual(danced(dance * 6, answer.fraction), answer.fraction)
        self.assertNotEqual(led_by_table(dance * 6, answer.fraction), answer.fraction)
        self.assertIs(answer.shows(dance), True)

    def told_elsewhere(self, one, other):
        answer = elsewhere(one, other)
        self.assertIs(type(answer), Elsewhere, (one, other))
        self.assertIs(type(answer.word), str)
        self.assertEqual(table(begun(answer.word, other)), table(one), (one, other))
        self.assertIs(answer.shows(one, other), True)

    def told_rounds(self, one, other):
        answer = elsewhere(one, other)
        self.assertIs(type(answer), Rounds, (one, other))
        told = [answer.there, answer.first, answer.back, answer.second]
        self.assertEqual([type(part) for part in told], [str] * 4)
        self.assertTrue(is_round(answer.first), one)
        self.assertTrue(is_round(answer.second), other)
        self.assertEqual(table(begun(answer.there, answer.first)), table(one), (one, other))
        self.assertEqual(table(begun(answer.back, answer.second)), table(other), (one, other))
        self.assertNotIn(answer.first, places(answer.second))
        self.assertNotIn(answer.second, places(answer.first))
        self.assertIs(answer.shows(one, other), True)

    def told_of_pair(self, one, other):
        if type(elsewhere(one, other)) is Elsewhere:
            self.told_elsewhere(one, other)
            return True
        self.told_rounds(one, other)
        return False


class Interface(unittest.TestCase):
    def test_names_of_arguments(self):
        for asked, names in [(alike, ["one", "other"]), (comes_back, ["dance"]), (elsewhere, ["one", "other"])]:
            self.assertEqual(list(inspect.signature(asked).parameters), names)

    def test_by_name(self):
        self.assertTrue(alike(one="t", other="ttu").shows("t", "ttu"))
        self.assertTrue(comes_back(dance="r").shows("r"))
        self.assertTrue(elsewhere(one="tru", other="r").shows("tru", "r"))


class AlikeTold(Telling):
    def test_all_pairs_of_short_words(self):
        words = list(words_up_to(4))
        tables = {word: table(word) for word in words}
        for one, other in itertools.product(words, repeat=2):
            if tables[one] == tables[other]:
                self.told_alike(one, other)
            else:
                self.told_unlike(one, other)

    def test_short_words_that_are_alike(self):
        families = {}
        for word in words_up_to(6):
            families.setdefault(table(word), []).append(word)
        for family in families.values():
            for word in family:
                self.told_alike(word, family[0])
                self.told_alike(family[-1], word)

    def test_some(self):
        for one, other in [
            ("", ""), ("t", "t"), ("", "tu"), ("ut", ""), ("rr", "tu"), ("trtrtr", ""), ("", "rtrtrt"), ("ururur", ""),
            ("trt", "rur"), ("uru", "rtr"), ("rur", "trt"), ("rtr", "uru"), ("rurur", "t"), ("u", "rtrtr"),
        ]:
            self.told_alike(one, other)
        for one, other in [("", "t"), ("t", "u"), ("r", ""), ("tr", "rt"), ("tr", "ru"), ("tt", "t"), ("rtr", "rur")]:
            self.told_unlike(one, other)

    def test_no_one_fraction_tells_all_words_from_no_letters(self):
        told = set()
        for word in words_up_to(6):
            if table(word) != table(""):
                self.told_unlike(word, "")
                self.told_unlike("", word)
                told.add(alike(word, "").fraction)
        self.assertGreater(len(told), 1)

    def test_long_words_that_are_alike(self):
        chance = chances(11)
        for length in (0, 1, 100, 300):
            word = chance_word(chance, length)
            one, other = grown(chance, word, 60), grown(chance, word, 80)
            self.told_alike(one, other)
            self.told_alike(other, one)
            self.told_alike(word, one)
            self.told_alike(one, one)

    def test_a_long_word_and_then_it_backwards(self):
        word = chance_word(chances(12), 300)
        self.told_alike(begun(word, ""), "")
        self.told_alike("", begun(word, ""))

    def test_long_words_that_differ_in_one_letter(self):
        chance = chances(13)
        for length in (1, 2, 100, 300):
            for _ in range(5):
                word = chance_word(chance, length)
                self.told_unlike(word, with_one_letter_changed(chance, word))
                self.told_unlike(with_one_letter_changed(chance, grown(chance, word, 20)), word)

    def test_runs(self):
        self.told_alike("t" * 300 + "u" * 300, "")
        self.told_alike("tr" * 300, "ru" * 300)
        self.told_unlike("t" * 300, "t" * 301)
        self.told_unlike("ttr" * 100, "utr" * 100)

    def test_what_was_told_may_be_changed(self):
        first = alike("trt", "rur")
        steps = list(first.steps)
        self.assertNotEqual(steps, [])
        first.steps.clear()
        first.steps.append("changed")
        second = alike("trt", "rur")
        self.assertEqual(second.steps, steps)
        self.assertIsNot(second.steps, first.steps)
        self.assertIs(second.shows("trt", "rur"), True)

    def test_the_same_word_twice(self):
        first, second = alike("t", "t"), alike("t", "t")
        first.steps.append("changed")
        self.assertEqual(behind_steps("t", second.steps), "t")
        self.assertEqual(behind_steps("t", alike("t", "t").steps), "t")


class ComesBackTold(Telling):
    def test_all_short_words(self):
        for dance in words_up_to(7):
            quiet = [many for many in (1, 2, 3) if table(dance * many) == table("")]
            if quiet:
                self.told_quiet(dance, quiet[0])
            else:
                self.told_onward(dance)

    def test_some(self):
        for dance, many in [("", 1), ("tu", 1), ("trtrtr", 1), ("r", 2), ("rrr", 2), ("tr", 3), ("ru", 3), ("trtr", 3)]:
            self.told_quiet(dance, many)
        for dance in ("t", "u", "tt", "rtr", "rru", "rtrrru", "t" * 300, "ttr", "tttr"):
            self.told_onward(dance)

    def test_begun_elsewhere(self):
        for start in STARTS:
            for dance, many in [("", 1), ("rr", 1), ("r", 2), ("tr", 3), ("ru", 3)]:
                self.told_quiet(begun(start, dance), many)
            for dance in ("t", "u", "rtr", "rru", "rtrrru"):
                self.told_onward(begun(start, dance))

    def test_long_words(self):
        chance = chances(21)
        for _ in range(4):
            start = chance_word(chance, 150)
            for dance, many in [("", 1), ("r", 2), ("tr", 3), ("ru", 3)]:
                self.told_quiet(grown(chance, begun(start, dance), 20), many)
            self.told_onward(grown(chance, begun(start, "t"), 20))
            self.told_onward(grown(chance, begun(start, "rtrrru"), 20))
            self.told_onward("ttr" * 50 + start.replace("u", "t"))


class ElsewhereTold(Telling):
    def test_all_pairs_of_short_words(self):
        words = list(words_up_to(3))
        for one, other in itertools.product(words, repeat=2):
            there = self.told_of_pair(one, other)
            self.assertEqual(there, self.told_of_pair(other, one))

    def test_short_words_beside_some(self):
        for word in words_up_to(5):
            for other in ("", "r", "tr", "ru", "t", "u", "rtrrru"):
                self.told_of_pair(word, other)
                self.told_of_pair(other, word)

    def test_some(self):
        for one, other in [("", ""), ("", "rr"), ("r", "tru"), ("tr", "rt"), ("ru", "ur"), ("t", "rtr"), ("u", "rur")]:
            self.told_elsewhere(one, other)
            self.told_elsewhere(other, one)
        for one, other in [("", "r"), ("r", "tr"), ("tr", "ru"), ("t", "u"), ("t", "tt"), ("", "t"), ("tr", "t")]:
            self.told_rounds(one, other)
            self.told_rounds(other, one)

    def test_rounds_begun_elsewhere(self):
        rounds = rounds_up_to(3)
        for first, second in itertools.product(rounds, repeat=2):
            for start, far in [("", ""), ("r", "tr"), ("ttt", "ru"), ("rtrrru", "rru"), ("tr", "ttt")]:
                one, other = begun(start, first), begun(far, second)
                self.assertEqual(self.told_of_pair(one, other), first in places(second), (first, second))

    def test_each_start(self):
        for start, far in itertools.product(STARTS, repeat=2):
            for told in ("", "r", "tr", "ru", "rtr", "rtrrtrrru"):
                self.told_elsewhere(begun(start, told), begun(far, told))
            self.told_rounds(begun(start, "tr"), begun(far, "ru"))
            self.told_rounds(begun(start, "rtr"), begun(far, "rru"))

    def test_from_another_place(self):
        for told in rounds_up_to(6):
            for place in places(told):
                self.told_elsewhere(told, place)
                self.told_elsewhere(begun("tturt", place), begun("rtru", told))

    def test_the_same_pieces_in_another_order(self):
        one, other = "rtrrtrrrurru" + "rtrrru", "rtrrtrrtrrrurrurru"
        self.assertEqual(sorted(one), sorted(other))
        self.told_rounds(one, other)
        self.told_rounds(begun("ttr", one), begun("u", other))

    def test_a_round_and_it_backwards(self):
        self.told_elsewhere("rtrrru", back("rtrrru"))
        self.told_rounds("rtrrtrrru", back("rtrrtrrru"))
        self.told_elsewhere("r", back("r"))
        self.told_rounds("tr", back("tr"))

    def test_a_round_danced_more_often(self):
        self.told_rounds("rtrrru", "rtrrru" * 2)
        self.told_elsewhere("rtrrru" * 3, begun("tt", "rrurtr" * 3))

    def test_long_words(self):
        chance = chances(31)
        for _ in range(4):
            dance = chance_word(chance, 120)
            start = chance_word(chance, 100)
            one = grown(chance, dance, 20)
            other = grown(chance, begun(start, dance[50:] + dance[:50]), 20)
            self.told_elsewhere(one, other)
            self.told_elsewhere(other, one)

    def test_long_words_that_differ_in_one_piece(self):
        chance = chances(32)
        for _ in range(4):
            pieces = [chance.choice(PIECES_OF_ROUNDS) for _ in range(80)]
            changed = list(pieces)
            changed[40] = "rru" if changed[40] == "rtr" else "rtr"
            start, far = chance_word(chance, 80), chance_word(chance, 60)
            turned = pieces[23:] + pieces[:23]
            self.told_elsewhere(begun(start, "".join(pieces)), begun(far, "".join(turned)))
            self.told_rounds(begun(start, "".join(pieces)), begun(far, "".join(changed)))

    def test_long_words_that_lead_back_after_two_or_three_times(self):
        chance = chances(33)
        start, far = chance_word(chance, 200), chance_word(chance, 150)
        for first, second in itertools.product(("", "r", "tr", "ru"), repeat=2):
            self.assertEqual(self.told_of_pair(begun(start, first), begun(far, second)), first == second)


class Refusals(unittest.TestCase):
    def test_bad_words(self):
        for word in bad_words():
            for asked in (alike, elsewhere):
                for one, other in ((word, "t"), ("t", word), (word, word), ("", word), (word, "x"), ("x", word)):
                    with self.assertRaises(BadWord):
                        asked(one, other)
            with self.assertRaises(BadWord):
                comes_back(word)

    def test_their_words_tell_nothing_of_what_was_handed_in(self):
        for asked in (lambda word: alike(word, "t"), lambda word: alike("t", word), comes_back,
                      lambda word: elsewhere(word, "t"), lambda word: elsewhere("t", word)):
            self.assertEqual(len(words_of_refusals(asked, BadWord, bad_words())), 1)

    def test_nothing_handed_in_is_changed(self):
        for thing in (["t"], [], {"t": 1}, {"t"}, bytearray(b"t")):
            was = thing.copy()
            for asked in (alike, elsewhere):
                with self.assertRaises(BadWord):
                    asked(thing, "t")
                with self.assertRaises(BadWord):
                    asked("t", thing)
            with self.assertRaises(BadWord):
                comes_back(thing)
            self.assertEqual(thing, was)


if __name__ == "__main__":
    unittest.main()
