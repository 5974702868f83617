import unittest

from helpers import behind_steps, begun, chance_word, chances, grown, is_round, table, words_up_to
from twistturn.plainest import made_plain, undone, word_and_round


class MadePlain(unittest.TestCase):
    def test_alike_words_have_the_same_plainest_word_and_no_others_have_it(self):
        plain_ones = {}
        tables = {}
        for word in words_up_to(7):
            plain = made_plain(word)[0]
            self.assertEqual(plain_ones.setdefault(table(word), plain), plain, word)
            self.assertEqual(tables.setdefault(plain, table(word)), table(word), word)

    def test_steps_lead_there(self):
        for word in words_up_to(7):
            plain, steps = made_plain(word)
            self.assertEqual(behind_steps(word, steps), plain, word)
            self.assertEqual(behind_steps(plain, undone(steps)), word, word)

    def test_none_is_shorter(self):
        shortest = {}
        for word in words_up_to(7):
            shortest.setdefault(table(word), len(word))
            self.assertEqual(len(made_plain(word)[0]), shortest[table(word)], word)

    def test_pieces_that_never_stand_in_it(self):
        chance = chances(1)
        for length in (50, 200, 500):
            plain = made_plain(chance_word(chance, length))[0]
            for piece in ("tu", "ut", "rr", "trt", "uru"):
                self.assertNotIn(piece, plain)

    def test_long_words(self):
        chance = chances(2)
        for length in (100, 400):
            word = chance_word(chance, length)
            plain, steps = made_plain(word)
            self.assertEqual(behind_steps(word, steps), plain)
            self.assertEqual(made_plain(grown(chance, word, length))[0], plain)
            self.assertLessEqual(len(steps), 5 * length)

    def test_very_long_words_stay_quick(self):
        steps = [("out", at, "tu") for at in range(49999, -1, -1)]
        self.assertEqual(made_plain("t" * 50000 + "u" * 50000), ("", steps))
        self.assertEqual(made_plain("tr" * 60000)[0], "")


class WordAndRound(unittest.TestCase):
    def test_short_words(self):
        for word in words_up_to(7):
            there, told = word_and_round(word)
            self.assertTrue(is_round(told), word)
            self.assertEqual(table(begun(there, told)), table(word), word)

    def test_long_words(self):
        chance = chances(3)
        for length in (100, 400):
            word = chance_word(chance, length)
            there, told = word_and_round(word)
            self.assertTrue(is_round(told))
            self.assertEqual(table(begun(there, told)), table(word))


if __name__ == "__main__":
    unittest.main()
