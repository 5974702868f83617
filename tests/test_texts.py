import inspect
import itertools
import math
import unittest

from helpers import bad_fractions, things_of_every_kind, words_of_refusals
from twistturn.errors import BadFraction, BadText
from twistturn.texts import read, written

MOST = 10 ** 60 - 1
LEAST_OF_MOST_FIGURES = 10 ** 59

TOLD = [
    ((0, 1), "0/1"), ((1, 0), "1/0"), ((1, 1), "1/1"), ((-1, 1), "-1/1"), ((1, 2), "1/2"), ((-1, 2), "-1/2"),
    ((10, 1), "10/1"), ((-100, 3), "-100/3"), ((355, 113), "355/113"), ((7, 100), "7/100"),
    ((MOST, 1), "9" * 60 + "/1"), ((-MOST, 1), "-" + "9" * 60 + "/1"), ((1, MOST), "1/" + "9" * 60),
    ((LEAST_OF_MOST_FIGURES, 1), "1" + "0" * 59 + "/1"), ((-1, LEAST_OF_MOST_FIGURES), "-1/1" + "0" * 59),
    ((-MOST, MOST - 1), "-" + "9" * 60 + "/" + "9" * 59 + "8"), ((MOST - 1, MOST), "9" * 59 + "8/" + "9" * 60),
]

FORMS = ["", "/", "//", "-", "--", "0", "1", "1/", "/1", "1//2", "1/2/3", "1/2/", "/1/2", "1 2", "1:2", "1\\2", "end"]
NOUGHTS = ["01/2", "1/02", "00/1", "0/01", "-01/2", "1/00", "01/0", "001/1", "000/1", "-00/1", "0001/0002"]
SIGNS = [
    "-", "-/1", "1/-", "-/-", "-/2", "--1/2", "+1/2", "1/+2", "-+1/2", "-0/1", "0/-1", "-1/0", "1/-0", "1/-2",
    "-1/-2", "1-/2", "1/2-", "- 1/2", "0/-0",
]
BLANKS = [
    " 1/2", "1/2 ", "1 /2", "1/ 2", "1/2\n", "\n1/2", "1\n/2", "1/\n2", "1/2\t", "\t1/2", "1\t/2", "1/\t2", " ", "\n",
    "\t", "1/2\n\n", "1 0/1", "1/1 1", "-\t1/2", "1/2\r", "\r\n",
]
NO_FRACTIONS = ["0/0", "2/0", "0/2", "2/2", "2/4", "-2/4", "4/2", "-3/3", "10/5", "100/10", "6/9"]
TOO_LONG = [
    "1" + "0" * 60 + "/1", "-1" + "0" * 60 + "/1", "1/1" + "0" * 60, "9" * 61 + "/1", "1/" + "9" * 61,
    "1" * 5000 + "/1", "1/" + "1" * 5000, "0" * 61 + "/1", "0" + "9" * 60 + "/1", "1/0" + "9" * 60, "1" * 100000,
]
OTHER_SIGNS = [
    "a/b", "x", "1.0/2", "1/2.0", "1e5/1", "0x1/1", "1_0/1", "1/1_0", "1,000/1", "t", "1/2~", "'1/2'", "(1, 2)",
    "\u0661/\u0662", "\uff11/\uff12", "1/\u00b2", "\u00b9/2", "\u22121/2", "1\u20442", "1/2\x00", "\u00a01/2",
    "1/2\u2028", "\ud800", "1\u2215" + "2", "\u0967/1",
]

BAD_TEXTS = FORMS + NOUGHTS + SIGNS + BLANKS + NO_FRACTIONS + TOO_LONG + OTHER_SIGNS


class Written(unittest.TestCase):
    def test_some(self):
        for fraction, text in TOLD:
            told = written(fraction)
            self.assertEqual(told, text)
            self.assertIs(type(told), str)

    def test_bad_fractions(self):
        for fraction in bad_fractions():
            with self.assertRaises(BadFraction):
                written(fraction)

    def test_texts_are_no_fractions(self):
        for text in BAD_TEXTS + ["1/2", "1/0"]:
            with self.assertRaises(BadFraction):
                written(text)

    def test_sixty_one_figures(self):
        for number in (10 ** 60, 10 ** 60 + 1, 10 ** 61 - 1, 10 ** 100, 10 ** 5000, 7 ** 9000):
            for fraction in ((number, 1), (-number, 1), (1, number), (-1, number), (number, number + 1)):
                with self.assertRaises(BadFraction):
                    written(fraction)

    def test_argument(self):
        self.assertEqual(list(inspect.signature(written).parameters), ["fraction"])
        self.assertEqual(written(fraction=(1, 2)), "1/2")


class Read(unittest.TestCase):
    def test_some(self):
        for fraction, text in TOLD:
            told = read(text)
            self.assertEqual(told, fraction)
            self.assertEqual([type(told), type(told[0]), type(told[1])], [tuple, int, int])

    def test_bad_texts(self):
        for text in BAD_TEXTS:
            with self.assertRaises(BadText, msg=repr(text[:80])):
                read(text)

    def test_things_of_every_kind(self):
        for thing in things_of_every_kind() + [0, 1, -1, (1, 2), (0, 1), (1, 0), [1, 2], ["1/2"], ("1/2",), b"1/2"]:
            with self.assertRaises(BadText):
                read(thing)

    def test_argument(self):
        self.assertEqual(list(inspect.signature(read).parameters), ["text"])
        self.assertEqual(read(text="1/2"), (1, 2))

    def test_just_what_is_written_is_read(self):
        # Every text of up to five of these signs: it is read if some small fraction is written so, and refused else.
        fractions = [(1, 0)]
        fractions += [(a, b) for a in range(-999, 1000) for b in range(1, 1000) if math.gcd(a, b) == 1]
        texts = {written(fraction): fraction for fraction in fractions if len(written(fraction)) <= 5}
        for size in range(6):
            for signs in itertools.product("0123-/ ", repeat=size):
                text = "".join(signs)
                if text in texts:
                    self.assertEqual(read(text), texts[text])
                else:
                    with self.assertRaises(BadText, msg=repr(text)):
                        read(text)

    def test_each_sign_put_in_at_each_place(self):
        texts = ["-10/3", "1/0", "0/1"]
        signs = [chr(code) for code in range(32, 127)] + ["\t", "\n"]
        for text in texts:
            for at in range(len(text) + 1):
                for sign in signs:
                    changed = text[:at] + sign + text[at:]
                    try:
                        told = read(changed)
                    except BadText:
                        continue
                    self.assertTrue(sign in "0123456789-" and written(told) == changed, changed)


class BothWays(unittest.TestCase):
    def test_small_fractions(self):
        for a, b in itertools.product(range(-40, 41), range(1, 30)):
            text = str(a) + "/" + str(b)
            if math.gcd(a, b) == 1:
                self.assertEqual(written((a, b)), text)
                self.assertEqual(read(text), (a, b))
            else:
                with self.assertRaises(BadText):
                    read(text)

    def test_every_count_of_figures(self):
        for figures in range(1, 63):
            number = int("7" * figures)
            for fraction in ((number, 1), (-number, 1), (1, number), (number, number + 1), (-number - 1, number)):
                text = str(fraction[0]) + "/" + str(fraction[1])
                if figures <= 60:
                    self.assertEqual(written(fraction), text)
                    self.assertEqual(read(text), fraction)
                else:
                    with self.assertRaises(BadFraction):
                        written(fraction)
                    with self.assertRaises(BadText):
                        read(text)


class Refusals(unittest.TestCase):
    def test_their_words_tell_nothing_of_what_was_handed_in(self):
        long_ones = [(10 ** 60, 1), (1, 10 ** 60), (-10 ** 60, 1)]
        self.assertEqual(len(words_of_refusals(written, BadFraction, bad_fractions() + long_ones)), 1)
        self.assertEqual(len(words_of_refusals(read, BadText, things_of_every_kind() + BAD_TEXTS)), 1)

    def test_nothing_handed_in_is_changed(self):
        for thing in ([1, 2], ["1/2"], {1: 2}, {1, 2}):
            was = thing.copy()
            with self.assertRaises(BadFraction):
                written(thing)
            with self.assertRaises(BadText):
                read(thing)
            self.assertEqual(thing, was)


if __name__ == "__main__":
    unittest.main()
