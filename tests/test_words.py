import copy
import math
import unittest

from helpers import PIECES, SOME_FRACTIONS, bad_fractions, bad_words, led_by_table, table, things_of_every_kind
from helpers import words_of_refusals, words_up_to
from twistturn.errors import BadFraction, BadStep, BadWord
from twistturn.words import back, danced, stepped


def bad_steps():
    """Things that are a step on no word at all."""
    bad = things_of_every_kind() + ["", "tu", "in", 0, 1, (1, 0)]
    bad += [("in", 0), ("in", 0, "tu", 0), ("in", 0, "tu", "tu"), ["in", 0, "tu"], (("in", 0, "tu"),), ("in", "tu", 0)]
    bad += [("IN", 0, "tu"), ("i", 0, "tu"), ("", 0, "tu"), ("on", 0, "tu"), ("inout", 0, "tu"), ("tu", 0, "tu")]
    bad += [("in", 0, piece) for piece in ("", "t", "u", "r", "tut", "uu", "trtr", "trtrtrtrtrtr", "TU", "urururu")]
    bad += [("in", 0, piece) for piece in ("rtr", "rru", "rtrtrt", "ururur", "in")]
    bad += [("in", True, "tu"), ("in", False, "tu"), ("out", True, "tu"), ("out", False, "tu"), ("in", "0", "tu")]
    bad += [(deed, 0, "tu") for deed in things_of_every_kind()]
    bad += [("in", at, "tu") for at in things_of_every_kind()] + [("out", at, "tu") for at in things_of_every_kind()]
    bad += [("in", 0, piece) for piece in things_of_every_kind()]
    return bad


class Danced(unittest.TestCase):
    def test_one_more_and_one_less(self):
        self.assertEqual(danced("t", (2, 3)), (5, 3))
        self.assertEqual(danced("t", (-2, 3)), (1, 3))
        self.assertEqual(danced("u", (2, 3)), (-1, 3))
        self.assertEqual(danced("u", (-2, 3)), (-5, 3))

    def test_turned(self):
        self.assertEqual(danced("r", (2, 3)), (-3, 2))
        self.assertEqual(danced("r", (-2, 3)), (3, 2))
        self.assertEqual(danced("r", (1, 1)), (-1, 1))
        self.assertEqual(danced("r", (-1, 1)), (1, 1))

    def test_nought_under_each_letter(self):
        self.assertEqual(danced("t", (0, 1)), (1, 1))
        self.assertEqual(danced("u", (0, 1)), (-1, 1))
        self.assertEqual(danced("r", (0, 1)), (1, 0))

    def test_the_end_under_each_letter(self):
        self.assertEqual(danced("t", (1, 0)), (1, 0))
        self.assertEqual(danced("u", (1, 0)), (1, 0))
        self.assertEqual(danced("r", (1, 0)), (0, 1))

    def test_no_letters(self):
        for fraction in SOME_FRACTIONS:
            self.assertEqual(danced("", fraction), fraction)

    def test_from_the_first_letter_on(self):
        self.assertEqual(danced("tr", (0, 1)), (-1, 1))
        self.assertEqual(danced("rt", (0, 1)), (1, 0))
        self.assertEqual(danced("ttru", (1, 2)), (-7, 5))

    def test_every_short_word_leads_a_fraction_to_a_fraction(self):
        for word in words_up_to(5):
            for fraction in SOME_FRACTIONS:
                to = danced(word, fraction)
                self.assertEqual(to, led_by_table(word, fraction), (word, fraction))
                self.assertEqual([type(to), type(to[0]), type(to[1])], [tuple, int, int])
                self.assertEqual(math.gcd(*to), 1)
                self.assertTrue(to[1] > 0 or to == (1, 0))

    def test_numbers_of_any_size(self):
        big = 10 ** 2000
        self.assertEqual(danced("t", (big, big + 1)), (2 * big + 1, big + 1))
        self.assertEqual(danced("u", (-big, big - 1)), (-2 * big + 1, big - 1))
        self.assertEqual(danced("r", (-big, 7)), (7, big))
        self.assertEqual(danced("r", (big, 7)), (-7, big))

    def test_a_long_word(self):
        self.assertEqual(danced("t" * 100000, (1, 2)), (200001, 2))
        word = "ttr" * 3000 + "uurt" * 1000
        self.assertEqual(danced(word, (1, 3)), led_by_table(word, (1, 3)))

    def test_three_fractions_tell_whether_words_are_alike(self):
        for word in words_up_to(6):
            led = [danced(word, fraction) for fraction in [(0, 1), (1, 0), (1, 1)]]
            self.assertEqual(led == [(0, 1), (1, 0), (1, 1)], table(word) == table(""), word)

    def test_bad_words(self):
        for word in bad_words():
            with self.assertRaises(BadWord):
                danced(word, (1, 2))

    def test_bad_fractions(self):
        for fraction in bad_fractions():
            for word in ("", "t", "r"):
                with self.assertRaises(BadFraction):
                    danced(word, fraction)

    def test_the_word_is_refused_ahead_of_the_fraction(self):
        for word in bad_words():
            with self.assertRaises(BadWord):
                danced(word, (2, 4))
        for fraction in bad_fractions():
            with self.assertRaises(BadWord):
                danced("x", fraction)

    def test_what_is_told_is_new(self):
        fraction = (10 ** 20, 3)
        self.assertIsNot(danced("", fraction), fraction)
        self.assertEqual(fraction, (10 ** 20, 3))


class Back(unittest.TestCase):
    def test_some(self):
        for word, told in [("", ""), ("t", "u"), ("u", "t"), ("r", "r"), ("tr", "ru"), ("ttur", "rtuu")]:
            self.assertEqual(back(word), told)

    def test_a_word_and_then_it_backwards_is_quiet(self):
        for word in words_up_to(5):
            for fraction in SOME_FRACTIONS:
                self.assertEqual(danced(word + back(word), fraction), fraction)
                self.assertEqual(danced(back(word) + word, fraction), fraction)
            self.assertEqual(back(back(word)), word)

    def test_bad_words(self):
        for word in bad_words():
            with self.assertRaises(BadWord):
                back(word)


class Stepped(unittest.TestCase):
    def test_each_piece_is_quiet(self):
        for piece in PIECES:
            for fraction in SOME_FRACTIONS:
                self.assertEqual(danced(piece, fraction), fraction)

    def test_each_piece_in_and_out_at_each_place(self):
        for word in words_up_to(3):
            for piece in PIECES:
                for at in range(len(word) + 1):
                    longer = stepped(word, ("in", at, piece))
                    self.assertEqual(longer, word[:at] + piece + word[at:])
                    self.assertEqual(stepped(longer, ("out", at, piece)), word)

    def test_some(self):
        self.assertEqual(stepped("", ("in", 0, "rr")), "rr")
        self.assertEqual(stepped("rr", ("out", 0, "rr")), "")
        self.assertEqual(stepped("rtur", ("out", 1, "tu")), "rr")
        self.assertEqual(stepped("tut", ("out", 1, "ut")), "t")
        self.assertEqual(stepped("tt", ("in", 2, "rr")), "ttrr")
        self.assertEqual(stepped("tt", ("in", 1, "rr")), "trrt")
        self.assertEqual(stepped("rtrtrtr", ("out", 1, "trtrtr")), "r")
        self.assertEqual(stepped("tutu", ("out", 2, "tu")), "tu")
        self.assertEqual(stepped("tutu", ("out", 1, "ut")), "tu")

    def test_just_the_pieces_that_stand_there_go_out(self):
        for word in words_up_to(4):
            for piece in PIECES:
                for at in range(-8, 8):
                    stands = at >= 0 and word[at:at + len(piece)] == piece
                    step = ("out", at, piece)
                    if stands:
                        self.assertEqual(stepped(word, step), word[:at] + word[at + len(piece):])
                    else:
                        with self.assertRaises(BadStep):
                            stepped(word, step)

    def test_places_beyond_either_end(self):
        for word in ("", "t", "tutu", "rrrr"):
            for piece in PIECES:
                self.assertEqual(stepped(word, ("in", len(word), piece)), word + piece)
                for at in (-1, -2, -4, -len(word) - 1, len(word) + 1, len(word) + 2, 10 ** 30, -10 ** 30):
                    for deed in ("in", "out"):
                        with self.assertRaises(BadStep):
                            stepped(word, (deed, at, piece))
                with self.assertRaises(BadStep):
                    stepped(word, ("out", len(word), piece))

    def test_bad_words(self):
        for word in bad_words():
            with self.assertRaises(BadWord):
                stepped(word, ("in", 0, "tu"))

    def test_bad_steps(self):
        for step in bad_steps():
            for word in ("", "tutut"):
                with self.assertRaises(BadStep):
                    stepped(word, step)

    def test_the_word_is_refused_ahead_of_the_step(self):
        for word in bad_words():
            with self.assertRaises(BadWord):
                stepped(word, ("out", 99, "tu"))
        for step in bad_steps():
            with self.assertRaises(BadWord):
                stepped("tuT", step)


class Refusals(unittest.TestCase):
    def test_their_words_tell_nothing_of_what_was_handed_in(self):
        for asked, kind, things in [
            (back, BadWord, bad_words()),
            (lambda word: danced(word, (1, 2)), BadWord, bad_words()),
            (lambda word: stepped(word, ("in", 0, "tu")), BadWord, bad_words()),
            (lambda fraction: danced("t", fraction), BadFraction, bad_fractions()),
            (lambda step: stepped("rr", step), BadStep, bad_steps() + [("out", 1, "tu"), ("in", 3, "tu")]),
        ]:
            self.assertEqual(len(words_of_refusals(asked, kind, things)), 1)

    def test_nothing_handed_in_is_changed(self):
        for thing in ([1, 2], ["in", 0, "tu"], ["t"], {"t": 1}, {1, 2}, ("in", [0], "tu"), ([1], 2)):
            was = copy.deepcopy(thing)
            with self.assertRaises(BadWord):
                danced(thing, thing)
            with self.assertRaises(BadFraction):
                danced("t", thing)
            with self.assertRaises(BadWord):
                back(thing)
            with self.assertRaises(BadStep):
                stepped("t", thing)
            self.assertEqual(thing, was)


if __name__ == "__main__":
    unittest.main()
