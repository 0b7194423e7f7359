"""What the other modules need of integers, words and fractions."""

from math import gcd

from ownmarks.errors import BadNumber

LETTERS = "abcdefghijklmnopqrstuvwxyz"
LONGEST = 8
NOUGHT = (0, 1)


def is_integer(value):
    # For Python, True and False are integers; for the program they are not.
    return isinstance(value, int) and not isinstance(value, bool)


def is_integer_within(value, least, most):
    return is_integer(value) and least <= value <= most


def need_number(number, least, most):
    """Raise BadNumber(number) for what is no integer from the least to the most."""
    if not is_integer_within(number, least, most):
        raise BadNumber(number)


def is_word(value):
    if not isinstance(value, str) or not 1 <= len(value) <= LONGEST:
        return False
    return all([sign in LETTERS for sign in value])


def lowest_terms(top, bottom):
    """The fraction that is top divided by bottom, which is from 1 on."""
    part = gcd(top, bottom)
    return (top // part, bottom // part)


def sum_of(fractions):
    """The sum of a list of fractions."""
    top, bottom = NOUGHT
    for more_top, more_bottom in fractions:
        top, bottom = top * more_bottom + more_top * bottom, bottom * more_bottom
    return lowest_terms(top, bottom)


def times(fraction, number):
    """A fraction multiplied by an integer."""
    return lowest_terms(fraction[0] * number, fraction[1])


def is_fraction(value):
    """Whether any value is a fraction: a tuple (top, bottom) in lowest terms."""
    if not isinstance(value, tuple) or len(value) != 2:
        return False
    if not is_integer(value[0]) or not is_integer(value[1]):
        return False
    return value[1] >= 1 and gcd(value[0], value[1]) == 1


def is_fraction_from_nought(value):
    return is_fraction(value) and value[0] >= 0


def is_less(one, other):
    """Whether one fraction is worth less than the other one."""
    return one[0] * other[1] < other[0] * one[1]


def are_ascending(fractions):
    """Whether a list of fractions is ascending by their worth, without doubles."""
    return all([is_less(one, after) for one, after in zip(fractions, fractions[1:])])


def are_in_order(people, value):
    """Whether any value is a list of some of these people, in their order and without doubles."""
    if not isinstance(value, list) or not all([isinstance(person, str) for person in value]):
        return False
    return value == [person for person in people if person in value]


def power(base, many):
    """The product of so many times the same integer."""
    told = 1
    for _ in range(many):
        told = told * base
    return told


def all_tuples(most, many):
    """The list of all tuples of so many integers from 0 to the most, ascending."""
    told = [()]
    for _ in range(many):
        told = [row + (number,) for row in told for number in range(most + 1)]
    return told


def item_in_turn(told, start, number):
    """The item with a number, from 1 on, of a list whose items come again and again from the start on."""
    index = number - 1
    return told[index] if index < len(told) else told[start + (index - start) % (len(told) - start)]
