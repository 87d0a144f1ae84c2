"""Whether a thing of any make is of a kind that the program speaks of."""

from royaltree.fractions import greatest_divisor

LONGEST_NAME = 8
GREATEST_BELOW = 60


def is_number(thing):
    """Whether a thing is a number; True and False are none."""
    return isinstance(thing, int) and not isinstance(thing, bool)


def is_number_from(thing, least, most):
    """Whether a thing is a number from least to most."""
    return is_number(thing) and least <= thing <= most


def is_tuple_of(thing, many):
    """Whether a thing is a tuple of so many things."""
    return isinstance(thing, tuple) and len(thing) == many


def is_name(thing):
    """Whether a thing is a text of one to eight letters from a to z."""
    if not isinstance(thing, str) or not 1 <= len(thing) <= LONGEST_NAME:
        return False
    return all(["a" <= sign <= "z" for sign in thing])


def is_fraction(thing):
    """Whether a thing is a fraction, of numbers of any size, in lowest terms."""
    if not is_tuple_of(thing, 2) or not all([is_number(number) for number in thing]):
        return False
    top, below = thing
    return below >= 1 and greatest_divisor(top, below) == 1


def is_part(thing):
    """Whether a thing is a fraction above 0, at most 1, its below at most 60."""
    if not is_tuple_of(thing, 2):
        return False
    top, below = thing
    if not is_number_from(below, 1, GREATEST_BELOW) or not is_number_from(top, 1, below):
        return False
    return greatest_divisor(top, below) == 1
