"""Fractions as texts: just what is written is read."""

from twistturn.errors import BadFraction, BadText
from twistturn.words import is_fraction

FIGURES = "0123456789"


def is_writable(fraction):
    return is_fraction(fraction) and abs(fraction[0]) < 10 ** 60 and fraction[1] < 10 ** 60


def written(fraction):
    if not is_writable(fraction):
        raise BadFraction("a fraction that can be written has numbers of up to 60 figures")
    return str(fraction[0]) + "/" + str(fraction[1])


# Asked ahead of int, which takes more signs than these, and may refuse a text of very many figures.
def is_number(text):
    figures = text[1:] if text.startswith("-") else text
    return 0 < len(figures) <= 60 and all([sign in FIGURES for sign in figures])


# The fraction that the text tells, None if it is not just as it would be written: so needless noughts
# and a - ahead of nought show, which the numbers by themselves don't.
def told_fraction(text):
    parts = text.partition("/")
    if not is_number(parts[0]) or not is_number(parts[2]):
        return None
    fraction = (int(parts[0]), int(parts[2]))
    if not is_fraction(fraction) or written(fraction) != text:
        return None
    return fraction


def read(text):
    fraction = told_fraction(text) if isinstance(text, str) else None
    if fraction is None:
        raise BadText("a fraction is written as its two numbers, of up to 60 figures, with / between")
    return fraction
