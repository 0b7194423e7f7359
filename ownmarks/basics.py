"""What the other modules need of integers, words and fractions."""

from math import gcd

LETTERS = "abcdefghijklmnopqrstuvwxyz"
LONGEST = 8
NOUGHT = (0, 1)


def is_integer(value):
    # For Python, True and False are integers; for the program they are not.
    return isinstance(value, int) and not isinstance(value, bool)


def is_integer_within(value, least, most):
    return is_integer(value) and least <= value <= most


def is_word(value):
    if not isinstance(value, str) or not 1 <= len(value) <= LONGEST:
        return False
    return all([sign in LETTERS for sign in value])


def lowest_terms(top, bottom):
    """The fraction that is top divided by bottom, which is from 1 on."""
    part = gcd(top, bottom)
    return (top // part, bottom // part)


def is_fraction(value):
    """Whether any value is a fraction: a tuple (top, bottom) in lowest terms."""
    if not isinstance(value, tuple) or len(value) != 2:
        return False
    if not is_integer(value[0]) or not is_integer(value[1]):
        return False
    return value[1] >= 1 and gcd(value[0], value[1]) == 1


def is_less(one, other):
    """Whether one fraction is worth less than the other one."""
    return one[0] * other[1] < other[0] * one[1]
