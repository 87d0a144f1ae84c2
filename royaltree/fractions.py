"""Fractions: tuples (top, below) without a common divisor, below 1 or more."""

from royaltree.errors import BadFraction

NOTHING = (0, 1)
ONE = (1, 1)

FIGURES = "0123456789"
MOST_FIGURES = 1000


def greatest_divisor(one, other):
    """The greatest number that divides both; of 0 and a number, that number's size."""
    one, other = abs(one), abs(other)
    while other != 0:
        one, other = other, one % other
    return one


def fraction_of(top, below):
    """The fraction top by below; below is any number but 0."""
    divisor = greatest_divisor(top, below)
    if below < 0:
        divisor = -divisor
    return (top // divisor, below // divisor)


def plus(one, other):
    """One and other together."""
    top, below = one
    other_top, other_below = other
    # Both are in lowest terms, so only what their belows share can come out of the sum. Where one of them is long
    # and the other short, as sums of many coins come to be, no divisor of two long numbers is looked for.
    shared = greatest_divisor(below, other_below)
    together = top * (other_below // shared) + other_top * (below // shared)
    divisor = greatest_divisor(together, shared)
    return (together // divisor, below // shared * (other_below // divisor))


def sum_of(parts):
    """All fractions of a list together; (0, 1) of none."""
    together = NOTHING
    for part in parts:
        together = plus(together, part)
    return together


def taken_from(one, other):
    """What is left of other when one is taken from it."""
    return plus(other, (-one[0], one[1]))


def product_of(one, other):
    """One times other."""
    # As with sums, of fractions in lowest terms only a top and the other's below have something to share.
    first = greatest_divisor(one[0], other[1])
    second = greatest_divisor(other[0], one[1])
    return (one[0] // first * (other[0] // second), one[1] // second * (other[1] // first))


def by_part(one, other):
    """One by other; other is not 0."""
    top, below = other
    return product_of(one, (below, top) if top > 0 else (-below, -top))


def is_less(one, other):
    """Whether one is less than other."""
    return one[0] * other[1] < other[0] * one[1]


def whole_of(one):
    """The greatest whole number that is no greater than one."""
    return one[0] // one[1]


def fraction_text(one):
    """A fraction as it is written: TOP, or TOP/BELOW."""
    top, below = one
    if below == 1:
        return str(top)
    return f"{top}/{below}"


def number_in(text):
    """The number of a text of figures, maybe with a minus ahead; else refused with BadFraction."""
    figures = text.removeprefix("-")
    # Python's int takes blanks, underscores and foreign figures too, and fails on very long texts.
    if not 1 <= len(figures) <= MOST_FIGURES:
        raise BadFraction("a number has 1 to 1,000 figures")
    if not all([sign in FIGURES for sign in figures]):
        raise BadFraction("a number has figures alone, and maybe a minus ahead of them")
    return int(text)


def fraction_in(text):
    """The fraction of which fraction_text tells just this text; else refused with BadFraction."""
    top_text, slash, below_text = text.partition("/")
    top = number_in(top_text)
    below = number_in(below_text) if slash else 1
    if below == 0:
        raise BadFraction("nothing stands above 0")
    told = fraction_of(top, below)
    # One fraction can be spelled in many ways; only the way of fraction_text is taken.
    if fraction_text(told) != text:
        raise BadFraction("a fraction is written in its shortest way")
    return told
