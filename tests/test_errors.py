import unittest

from twistturn import errors


class Errors(unittest.TestCase):
    def test_the_one_above_all(self):
        self.assertEqual(errors.DanceError.__bases__, (ValueError,))

    def test_those_straight_under_it(self):
        for kind in (errors.BadWord, errors.BadFraction, errors.BadStep, errors.Same, errors.BadText):
            with self.subTest(kind=kind.__name__):
                self.assertEqual(kind.__bases__, (errors.DanceError,))


if __name__ == "__main__":
    unittest.main()
