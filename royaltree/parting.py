"""How a work's rows part what comes in for its units."""

from royaltree.fractions import NOTHING, ONE, fraction_of, is_less, product_of, sum_of, taken_from
from royaltree.kinds import is_name, is_number_from, is_part, is_tuple_of

MOST_ROWS = 8
MOST_LEFT_ROWS = 3
LEAST_RATES = 2
MOST_RATES = 4
GREATEST_UPTO = 10 ** 6
GREATEST_LENGTH = 1000

# Rows that take their part of the whole coin, wherever they stand among the others.
WHOLE_COIN_ROWS = ("of", "steps")


def is_rows(thing):
    """Whether a thing of any make is a work's rows."""
    if not isinstance(thing, tuple) or len(thing) > MOST_ROWS:
        return False
    if not all([is_row(row) for row in thing]):
        return False
    return len([row for row in thing if row[0] == "left"]) <= MOST_LEFT_ROWS


def is_row(thing):
    """Whether a thing is one row, of whatever kind."""
    if not is_tuple_of(thing, 3):
        return False
    kind, name, told = thing
    if not is_name(name):
        return False
    if kind == "of" or kind == "left":
        return is_part(told)
    if kind == "steps":
        return is_rates(told)
    return kind == "length" and is_number_from(told, 1, GREATEST_LENGTH)


def is_rates(thing):
    """Whether a thing is the rates of a steps row."""
    if not isinstance(thing, tuple) or not LEAST_RATES <= len(thing) <= MOST_RATES:
        return False
    if not all([is_tuple_of(rate, 2) and is_part(rate[1]) for rate in thing]):
        return False
    return thing[-1][0] is None and are_uptos([upto for upto, part in thing[:-1]])


def are_uptos(things):
    """Whether things are rising numbers, from 1 to the greatest upto."""
    least = 1
    for thing in things:
        if not is_number_from(thing, least, GREATEST_UPTO):
            return False
        least = thing + 1
    return True


def too_much(rows):
    """Whether of rows and steps rows, at their greatest, take more than the whole coin."""
    return is_less(ONE, sum_of([greatest_part(row) for row in rows if row[0] in WHOLE_COIN_ROWS]))


def greatest_part(row):
    """The greatest part that an of row or a steps row takes of any unit."""
    kind, name, told = row
    if kind == "of":
        return told
    greatest = NOTHING
    for upto, part in told:
        if is_less(greatest, part):
            greatest = part
    return greatest


def part_at(row, unit):
    """The part that an of row or a steps row takes of this unit."""
    kind, name, told = row
    if kind == "of":
        return told
    for upto, part in told[:-1]:
        if unit < upto:
            return part
    return told[-1][1]


def whole_coin_shares(rows, unit):
    """What of rows and steps rows take of a coin for the unit, as pairs (name, fraction)."""
    return [(row[1], part_at(row, unit)) for row in rows if row[0] in WHOLE_COIN_ROWS]


def left_shares(rows, rest):
    """What left rows take of the rest, as pairs (name, fraction), and the rest behind them."""
    shares = []
    for kind, name, part in rows:
        if kind == "left":
            share = product_of(rest, part)
            shares.append((name, share))
            rest = taken_from(share, rest)
    return shares, rest


def length_shares(rows, rest):
    """The rest parted by the lengths, as pairs (name, fraction), and the rest behind them."""
    lengths = [(name, length) for kind, name, length in rows if kind == "length"]
    if not lengths:
        return [], rest
    together = sum([length for name, length in lengths])
    return [(name, product_of(rest, fraction_of(length, together))) for name, length in lengths], NOTHING


def all_shares(rows, unit):
    """What each row takes of a coin for the unit, as pairs (name, fraction), and what none takes."""
    by_coin = whole_coin_shares(rows, unit)
    rest = taken_from(sum_of([share for name, share in by_coin]), ONE)
    by_left, rest = left_shares(rows, rest)
    by_length, rest = length_shares(rows, rest)
    return by_coin + by_left + by_length, rest


def gathered(shares):
    """Pairs (name, fraction) put together by names: names rising, each once, none of 0."""
    parts = {}
    for name, share in shares:
        parts[name] = sum_of([parts.get(name, NOTHING), share])
    return [(name, part) for name, part in sorted(parts.items()) if part != NOTHING]


def parts_at(rows, unit):
    """How much of a coin for the unit goes where: pairs (name, fraction), names rising, none of 0."""
    shares, rest = all_shares(rows, unit)
    return gathered(shares)


def waits_at(rows, unit):
    """How much of a coin for the unit no row tells."""
    shares, rest = all_shares(rows, unit)
    return rest


def unit_stretches(rows, first, many):
    """So many units from first on, as pairs (first, many), cut at the uptos of steps rows."""
    behind = first + many
    uptos = [upto for kind, name, rates in rows if kind == "steps" for upto, part in rates[:-1]]
    cuts = sorted({upto for upto in uptos if first < upto < behind})
    return [(start, end - start) for start, end in zip([first] + cuts, cuts + [behind])]
