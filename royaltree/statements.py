"""Statements: what each half brought to each person, and whether two of them stand behind one another."""

from royaltree.fractions import NOTHING, ONE, is_less, sum_of, taken_from
from royaltree.kinds import is_fraction, is_name, is_number, is_tuple_of
from royaltree.ledger import Ledger

PLACES = 9


def statement_list(book, half):
    """For each person (person, earned, freed, worked, paid, open, kept, wrong, advance) of the half, names rising."""
    ledger = Ledger(book, (half + 1) * book.half_days() - 1)
    return [statement_of(ledger, person, half) for person in book.person_names()]


def statement_of(ledger, person, half):
    """What one person did in the half, and how they stand by a ledger of its last day."""
    stands = (ledger.open_of(person), ledger.kept_of(person))
    return (person,) + ledger.done_in(person, half) + stands + ledger.debt_of(person)


def shows_statements(one, other):
    """Whether things of any make are statements of which the other can stand straight behind the one."""
    if not is_statements(one) or not is_statements(other):
        return False
    if [row[0] for row in one] != [row[0] for row in other]:
        return False
    return all([stands_behind(row, later) for row, later in zip(one, other)])


def is_statements(thing):
    """Whether a thing is a list or tuple of statements, names rising."""
    if not isinstance(thing, (list, tuple)) or not all([is_statement(row) for row in thing]):
        return False
    return all([row[0] < later[0] for row, later in zip(thing, thing[1:])])


def is_statement(thing):
    """Whether a thing is made as what statement_list tells of a person is."""
    if not is_tuple_of(thing, PLACES):
        return False
    person, earned, freed, worked, paid, ready, kept, wrong, advance = thing
    if not is_name(person) or not all([is_fraction(coins) for coins in (earned, freed, ready, kept)]):
        return False
    return all([is_number(coins) and coins >= 0 for coins in (worked, paid, wrong, advance)])


def stands_behind(row, later):
    """Whether a person's later statement can stand straight behind the one ahead."""
    ready_ahead, kept_ahead = row[5], row[6]
    person, earned, freed, worked, paid, ready, kept, wrong, advance = later
    due = taken_from((worked + paid, 1), sum_of([ready_ahead, kept_ahead, earned]))
    if sum_of([ready, kept]) != due:
        return False
    if is_less(freed, NOTHING) or is_less(kept_ahead, freed):
        return False
    if is_less(kept, NOTHING) or not is_less(ready, ONE):
        return False
    return paid == 0 or wrong == advance == 0
