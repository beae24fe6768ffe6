"""Printable strings, integers, outputs, and integers as they are written."""

from firmground.limits import MOST_TEXT

# The one ASCII character between the space and the tilde that does not print here.
_BARRED = 37

# MOST_NUMBER has 13 digits. Without a bound, a long word would be refused by int(..) with an error.
_MOST_DIGITS = 13


def _prints(char):
    """Tell whether one character of a string is printable."""
    return " " <= char <= "~" and ord(char) != _BARRED


def is_printable(value):
    """Tell whether the value is a string whose characters are all printable (point 101)."""
    # Not isinstance: what only passes for a string may raise when it is looked at.
    if type(value) != str:
        return False
    return all([_prints(char) for char in value])


def is_integer(value, least, greatest):
    """Tell whether the value is an integer from least to greatest; True and False are none."""
    # Not isinstance: what only passes for an integer may raise when it is compared.
    return type(value) == int and least <= value <= greatest


def is_output(value):
    """Tell whether the value is an output (point 109)."""
    return is_printable(value) and len(value) <= MOST_TEXT


def integer_of(word):
    """Return the integer that the string writes (point 106), or None if it writes none."""
    digits = word.removeprefix("-")
    if len(digits) > _MOST_DIGITS or not (digits.isascii() and digits.isdigit()):
        return None
    number = int(word)
    # An integer has only one text, so a word such as -0 or 007 writes none.
    return number if str(number) == word else None
