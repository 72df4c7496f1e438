"""Texts: numbers and polynomials written and read."""

from deeprests.errors import NoText
from deeprests.primes import power_of

FIGURES = "0123456789"
MOST_FIGURES = 60
MOST_NUMBERS = 13


def is_made_of(text, signs):
    # Python's own tests for figures and letters would take those of other writings too.
    return all([sign in signs for sign in text])


def is_written_number(text):
    below = text.startswith("-")
    figures = text[1:] if below else text
    if len(figures) < 1 or len(figures) > MOST_FIGURES or not is_made_of(figures, FIGURES):
        return False
    if figures == "0":
        return not below
    return not figures.startswith("0")


def can_be_written(number):
    return abs(number) < power_of(10, MOST_FIGURES)


def read_number(text):
    if not isinstance(text, str) or not is_written_number(text):
        raise NoText("this is no number")
    return int(text)


def read_poly(text):
    if not isinstance(text, str):
        raise NoText("this is no text")
    words = text.split(",")
    if len(words) > MOST_NUMBERS:
        raise NoText("these are too many numbers for a polynomial")
    return [read_number(word) for word in words]


def show_poly(f):
    return ",".join([str(number) for number in f])
