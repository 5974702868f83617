import itertools
import unittest

from helpers import SOME_FRACTIONS, led_by_table, table, words_up_to
from twistturn import answers
from twistturn.answers import Alike, Elsewhere, Led, Onward, Parts, Quiet, Rounds, Unlike

FIELDS = [
    (Alike, {"steps": [("in", 0, "tu"), ("out", 0, "tu")]}),
    (Unlike, {"fraction": (1, 2)}),
    (Quiet, {"many": 2}),
    (Onward, {"fraction": (-1, 2)}),
    (Led, {"word": "tur"}),
    (Parts, {"there": "t", "back": "u"}),
    (Elsewhere, {"word": "rt"}),
    (Rounds, {"there": "t", "first": "rtr", "back": "u", "second": "rru"}),
]


class Asked(unittest.TestCase):
    def shown(self, truth):
        self.assertIs(truth, True)

    def not_shown(self, truth):
        self.assertIs(truth, False)


class Classes(unittest.TestCase):
    def test_each_stands_straight_under_answer(self):
        self.assertEqual(answers.Answer.__bases__, (object,))
        for kind, _ in FIELDS:
            self.assertEqual(kind.__bases__, (answers.Answer,))

    def test_fields_by_place_and_by_name(self):
        for kind, fields in FIELDS:
            for answer in (kind(*fields.values()), kind(**fields)):
                self.assertEqual(vars(answer), fields)

    def test_objects_share_nothing(self):
        one, other = Alike([]), Alike([])
        one.steps.append(("in", 0, "tu"))
        self.assertEqual(other.steps, [])


class AlikeShows(Asked):
    def test_no_steps(self):
        for word in ("", "t", "rtr"):
            self.shown(Alike([]).shows(word, word))
        self.not_shown(Alike([]).shows("", "tu"))
        self.not_shown(Alike([]).shows("tu", ""))

    def test_steps_one_behind_the_other(self):
        steps = [("in", 1, "rr"), ("in", 3, "tu"), ("out", 1, "rr")]
        self.shown(Alike(steps).shows("t", "ttu"))
        self.not_shown(Alike(steps).shows("ttu", "t"))
        self.not_shown(Alike(list(reversed(steps))).shows("t", "ttu"))
        self.not_shown(Alike(steps).shows("t", "t"))

    def test_each_piece_in_and_out(self):
        for piece in ("tu", "ut", "rr", "trtrtr"):
            self.shown(Alike([("in", 1, piece)]).shows("r", "r" + piece))
            self.shown(Alike([("out", 1, piece)]).shows("r" + piece, "r"))

    def test_places(self):
        self.shown(Alike([("in", 2, "tu")]).shows("rr", "rrtu"))
        self.not_shown(Alike([("in", 3, "tu")]).shows("rr", "rrtu"))
        self.not_shown(Alike([("in", -1, "tu")]).shows("rr", "rtur"))
        self.not_shown(Alike([("out", -2, "tu")]).shows("rrtu", "rr"))
        self.not_shown(Alike([("out", 10 ** 30, "tu")]).shows("rrtu", "rr"))

    def test_any_tuples_of_a_text_a_number_and_a_text(self):
        for deed, at, piece in itertools.product(("in", "out", "", "on"), (-1, 0, 1, 10 ** 30), ("tu", "", "t", "x")):
            good = (deed, at, piece) == ("in", 0, "tu")
            self.assertIs(Alike([(deed, at, piece)]).shows("", "tu"), good)
            self.not_shown(Alike([(deed, at, piece)]).shows("", ""))
        self.not_shown(Alike([("in", 0, "t")]).shows("", "t"))
        self.not_shown(Alike([("out", 0, "")]).shows("r", "r"))
        self.not_shown(Alike([("in", True, "tu")]).shows("r", "rtu"))

    def test_one_bad_step_among_good_ones(self):
        good = [("in", 0, "tu"), ("out", 0, "tu")]
        bad = ("out", 0, "tu")
        self.shown(Alike(good).shows("r", "r"))
        for at in (0, 2):
            self.not_shown(Alike(good[:at] + [bad] + good[at:]).shows("r", "r"))

    def test_steps_that_lead_round_about(self):
        self.not_shown(Alike([("in", 0, "tu"), ("out", 0, "ut")]).shows("", ""))
        self.shown(Alike([("in", 0, "tu"), ("in", 2, "tu"), ("out", 1, "ut"), ("out", 0, "tu")]).shows("", ""))

    def test_the_list_is_copied(self):
        steps = [("in", 0, "tu")]
        answer = Alike(steps)
        self.assertIsNot(answer.steps, steps)
        steps.clear()
        self.assertEqual(answer.steps, [("in", 0, "tu")])
        self.shown(answer.shows("", "tu"))

    def test_the_field_as_it_stands_then(self):
        answer = Alike([("in", 0, "tu")])
        self.shown(answer.shows("", "tu"))
        answer.steps.append(("out", 0, "tu"))
        self.not_shown(answer.shows("", "tu"))
        self.shown(answer.shows("", ""))
        answer.steps = []
        self.shown(answer.shows("r", "r"))
        self.assertEqual(answer.steps, [])

    def test_asking_changes_nothing(self):
        steps = [("in", 0, "tu"), ("out", 1, "rr")]
        answer = Alike(steps)
        answer.shows("", "tu")
        self.assertEqual(answer.steps, steps)

    def test_a_long_row_of_steps(self):
        steps = [("in", 0, "tu")] * 3000
        self.shown(Alike(steps).shows("r" * 20000, "tu" * 3000 + "r" * 20000))


class UnlikeShows(Asked):
    def test_some(self):
        self.shown(Unlike((0, 1)).shows("t", "u"))
        self.not_shown(Unlike((1, 0)).shows("t", "u"))
        self.shown(Unlike((1, 0)).shows("r", ""))
        self.not_shown(Unlike((1, 2)).shows("tu", ""))
        self.not_shown(Unlike((0, 1)).shows("", ""))
        self.not_shown(Unlike((0, 1)).shows("rtr", ""))
        self.shown(Unlike((1, 0)).shows("rtr", ""))

    def test_as_the_tables_say(self):
        for one, other in itertools.product(list(words_up_to(3)), repeat=2):
            for fraction in SOME_FRACTIONS:
                unlike = led_by_table(one, fraction) != led_by_table(other, fraction)
                self.assertIs(Unlike(fraction).shows(one, other), unlike)

    def test_numbers_of_any_size(self):
        self.shown(Unlike((10 ** 300, 10 ** 200 + 1)).shows("t", "ttu" + "t"))
        self.not_shown(Unlike((10 ** 300, 10 ** 200 + 1)).shows("t", "ttu"))

    def test_the_field_as_it_stands_then(self):
        answer = Unlike((0, 1))
        self.shown(answer.shows("t", "u"))
        answer.fraction = (1, 0)
        self.not_shown(answer.shows("t", "u"))


class QuietShows(Asked):
    def test_each_count(self):
        for dance, many in [("", 1), ("tu", 1), ("trtrtr", 1), ("r", 2), ("tru", 2), ("tr", 3), ("ru", 3), ("rt", 3)]:
            for count in range(-2, 14):
                self.assertIs(Quiet(count).shows(dance), count == many, (dance, count))

    def test_never_quiet(self):
        for dance in ("t", "u", "tt", "rtr", "rtrrru"):
            for count in range(-2, 14):
                self.not_shown(Quiet(count).shows(dance))

    def test_counts_of_any_size(self):
        for count in (10 ** 30, -10 ** 30, 6 * 10 ** 100):
            for dance in ("", "r", "tr", "t"):
                self.not_shown(Quiet(count).shows(dance))

    def test_truths_are_no_counts(self):
        self.not_shown(Quiet(True).shows(""))
        self.not_shown(Quiet(False).shows(""))

    def test_as_the_tables_say(self):
        for dance in words_up_to(6):
            quiet = [many for many in (1, 2, 3) if table(dance * many) == table("")]
            for many in (1, 2, 3):
                self.assertIs(Quiet(many).shows(dance), quiet[:1] == [many], dance)

    def test_the_field_as_it_stands_then(self):
        answer = Quiet(2)
        self.shown(answer.shows("r"))
        answer.many = 1
        self.not_shown(answer.shows("r"))
        self.shown(answer.shows(""))


class OnwardShows(Asked):
    def test_some(self):
        self.shown(Onward((0, 1)).shows("t"))
        self.not_shown(Onward((1, 0)).shows("t"))
        self.shown(Onward((1, 0)).shows("rtr"))
        for dance in ("", "r", "tr", "ru", "trtr", "tru"):
            for fraction in SOME_FRACTIONS:
                self.not_shown(Onward(fraction).shows(dance))

    def test_six_times_and_no_fewer(self):
        self.not_shown(Onward((0, 1)).shows("r"))
        self.not_shown(Onward((0, 1)).shows("tr"))
        for dance in words_up_to(4):
            for fraction in SOME_FRACTIONS:
                self.assertIs(Onward(fraction).shows(dance), led_by_table(dance * 6, fraction) != fraction)

    def test_never_both(self):
        for dance in words_up_to(6):
            quiet = any(Quiet(many).shows(dance) for many in (1, 2, 3))
            onward = any(Onward(fraction).shows(dance) for fraction in [(0, 1), (1, 0), (1, 1)])
            self.assertNotEqual(quiet, onward, dance)

    def test_the_field_as_it_stands_then(self):
        answer = Onward((1, 0))
        self.not_shown(answer.shows("t"))
        answer.fraction = (1, 2)
        self.shown(answer.shows("t"))


class LedShows(Asked):
    def test_both_must_be_led(self):
        pair = ((0, 1), (1, 0))
        self.shown(Led("").shows(pair, pair))
        self.shown(Led("r").shows(pair, ((1, 0), (0, 1))))
        self.shown(Led("t").shows(pair, ((1, 1), (1, 0))))
        self.not_shown(Led("t").shows(pair, ((1, 1), (0, 1))))
        self.not_shown(Led("t").shows(pair, ((0, 1), (1, 0))))
        self.not_shown(Led("").shows(pair, ((1, 0), (0, 1))))
        self.not_shown(Led("t").shows(((1, 1), (1, 0)), pair))

    def test_as_the_tables_say(self):
        pairs = list(itertools.permutations([(0, 1), (1, 0), (1, 1), (1, 2)], 2))
        for word in words_up_to(3):
            for pair, other in itertools.product(pairs, repeat=2):
                led = tuple(led_by_table(word, fraction) for fraction in pair) == other
                self.assertIs(Led(word).shows(pair, other), led)

    def test_the_field_as_it_stands_then(self):
        answer = Led("r")
        pair = ((0, 1), (1, 0))
        self.not_shown(answer.shows(pair, pair))
        answer.word = "rr"
        self.shown(answer.shows(pair, pair))


class PartsShows(Asked):
    def test_some(self):
        half = ((1, 0), (1, 2))
        third = ((1, 0), (1, 3))
        nought = ((1, 0), (0, 1))
        self.shown(Parts("", "").shows(half, third))
        self.shown(Parts("", "").shows(nought, third))
        self.not_shown(Parts("", "").shows(half, half))
        self.not_shown(Parts("", "").shows(nought, nought))
        self.shown(Parts("uu", "t").shows(((1, 0), (5, 2)), ((1, 0), (-2, 3))))
        self.shown(Parts("r", "").shows(((0, 1), (-3, 2)), half))

    def test_from_nought_on_below_one(self):
        half = ((1, 0), (1, 2))
        for second in ((1, 1), (-1, 1), (3, 2), (-1, 2), (2, 1)):
            self.not_shown(Parts("", "").shows(((1, 0), second), half))
            self.not_shown(Parts("", "").shows(half, ((1, 0), second)))
        near = (10 ** 40 - 1, 10 ** 40)
        self.shown(Parts("", "").shows(((1, 0), near), half))
        self.shown(Parts("", "").shows(half, ((1, 0), near)))

    def test_the_first_one_to_the_end(self):
        half = ((1, 0), (1, 2))
        for pair in (((0, 1), (1, 3)), ((1, 1), (1, 3)), ((1, 3), (1, 0)), ((0, 1), (1, 0))):
            self.not_shown(Parts("", "").shows(pair, half))
            self.not_shown(Parts("", "").shows(half, pair))

    def test_each_word_for_its_own_pair(self):
        pair, other = ((1, 0), (5, 2)), ((1, 0), (-2, 3))
        self.shown(Parts("uu", "t").shows(pair, other))
        self.not_shown(Parts("t", "uu").shows(pair, other))
        self.not_shown(Parts("uu", "").shows(pair, other))
        self.not_shown(Parts("", "t").shows(pair, other))

    def test_the_fields_as_they_stand_then(self):
        pair, other = ((1, 0), (5, 2)), ((1, 0), (-2, 3))
        answer = Parts("uu", "t")
        answer.there = "u"
        self.not_shown(answer.shows(pair, other))
        answer.there = "uutu"
        self.shown(answer.shows(pair, other))
        answer.back = ""
        self.not_shown(answer.shows(pair, other))


class ElsewhereShows(Asked):
    def test_some(self):
        self.shown(Elsewhere("").shows("t", "t"))
        self.shown(Elsewhere("").shows("", "rr"))
        self.shown(Elsewhere("r").shows("rtr", "t"))
        self.shown(Elsewhere("t").shows("tru", "r"))
        self.not_shown(Elsewhere("u").shows("tru", "r"))
        self.not_shown(Elsewhere("t").shows("r", "tru"))
        self.shown(Elsewhere("u").shows("r", "tru"))
        self.not_shown(Elsewhere("").shows("t", "u"))

    def test_as_the_tables_say(self):
        exchanged = str.maketrans("tu", "ut")
        short = list(words_up_to(2))
        for by, one, other in itertools.product(short, repeat=3):
            begun = by + other + by[::-1].translate(exchanged)
            self.assertIs(Elsewhere(by).shows(one, other), table(begun) == table(one))

    def test_the_field_as_it_stands_then(self):
        answer = Elsewhere("t")
        self.shown(answer.shows("tru", "r"))
        answer.word = ""
        self.not_shown(answer.shows("tru", "r"))
        self.shown(answer.shows("r", "r"))


class RoundsShows(Asked):
    def test_the_rounds_of_no_pieces(self):
        for first, second in itertools.product(("", "r", "tr", "ru"), repeat=2):
            self.assertIs(Rounds("", first, "", second).shows(first, second), first != second, (first, second))

    def test_rounds_of_pieces(self):
        rounds = ["".join(pieces) for size in range(1, 5) for pieces in itertools.product(("rtr", "rru"), repeat=size)]
        for first, second in itertools.product(rounds, repeat=2):
            places = [second[at:] + second[:at] for at in range(0, len(second), 3)]
            self.assertIs(Rounds("", first, "", second).shows(first, second), first not in places, (first, second))

    def test_lone_rounds_beside_pieces(self):
        for lone, pieces in itertools.product(("", "r", "tr", "ru"), ("rtr", "rru", "rtrrru")):
            self.shown(Rounds("", lone, "", pieces).shows(lone, pieces))
            self.shown(Rounds("", pieces, "", lone).shows(pieces, lone))

    def test_which_words_are_rounds(self):
        pieces = ("rtr", "rru")
        for word in words_up_to(6):
            threes = [word[at:at + 3] for at in range(0, len(word), 3)]
            is_round = word in ("", "r", "tr", "ru") or all(three in pieces for three in threes)
            other = "rtr" * 4 + "rru"
            self.assertIs(Rounds("", word, "", other).shows(word, other), is_round, word)
            self.assertIs(Rounds("", other, "", word).shows(other, word), is_round, word)

    def test_alike_to_the_dances(self):
        answer = Rounds("r", "rtr", "", "rru")
        self.shown(answer.shows("t", "u"))
        self.not_shown(answer.shows("u", "t"))
        self.not_shown(answer.shows("t", "uu"))
        self.not_shown(answer.shows("tt", "u"))
        self.not_shown(Rounds("", "rtr", "", "rru").shows("t", "u"))
        self.not_shown(Rounds("r", "rtr", "r", "rru").shows("t", "u"))
        self.not_shown(Rounds("r", "rtr", "r", "rtr").shows("t", "t"))
        self.shown(Rounds("t", "r", "u", "tr").shows("tru", "utrt"))

    def test_begun_by_the_word_and_not_the_other_way(self):
        self.shown(Rounds("t", "r", "", "").shows("tru", ""))
        self.not_shown(Rounds("u", "r", "", "").shows("tru", ""))
        self.shown(Rounds("", "", "t", "r").shows("", "tru"))
        self.not_shown(Rounds("", "", "u", "r").shows("", "tru"))

    def test_never_both(self):
        short = list(words_up_to(2))
        rounds = ["", "r", "tr", "ru", "rtr", "rru", "rtrrru", "rtrrtr", "rrurru"]
        for one, other in itertools.product(short, repeat=2):
            begun = any(Elsewhere(by).shows(one, other) for by in short)
            parted = any(
                Rounds(there, first, back, second).shows(one, other)
                for there, back in itertools.product(("", "r", "t"), repeat=2)
                for first, second in itertools.product(rounds, repeat=2)
            )
            self.assertFalse(begun and parted, (one, other))

    def test_long_rounds(self):
        first = "rtr" * 600 + "rru"
        self.not_shown(Rounds("", first, "", first[900:] + first[:900]).shows(first, first[900:] + first[:900]))
        second = "rtr" * 599 + "rru" * 2
        self.shown(Rounds("", first, "", second).shows(first, second))

    def test_the_fields_as_they_stand_then(self):
        for name, changed in [("there", ""), ("first", "rtrrtr"), ("back", "rt"), ("second", "rr")]:
            answer = Rounds("r", "rtr", "r", "rrurtr")
            self.shown(answer.shows("t", "rrrurtrr"))
            was = getattr(answer, name)
            setattr(answer, name, changed)
            self.not_shown(answer.shows("t", "rrrurtrr"))
            setattr(answer, name, was)
            self.shown(answer.shows("t", "rrrurtrr"))


if __name__ == "__main__":
    unittest.main()
