"""What the other modules need of integers and words."""

LETTERS = "abcdefghijklmnopqrstuvwxyz"
LONGEST = 8


def is_integer(value):
    # For Python, True and False are integers; for the program they are not.
    return isinstance(value, int) and not isinstance(value, bool)


def is_integer_within(value, least, most):
    return is_integer(value) and least <= value <= most


def is_word(value):
    if not isinstance(value, str) or not 1 <= len(value) <= LONGEST:
        return False
    return all([sign in LETTERS for sign in value])
