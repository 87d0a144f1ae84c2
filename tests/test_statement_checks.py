"""Promise 14: what shows statements of halves behind one another, and what does not."""

import copy
import itertools
import random
import unittest
from fractions import Fraction

from reckoning import book_with, drawn_ending_book, pair
from royaltree.statements import shows_statements, statement_list

NOUGHT = (0, 1)
PLACES = {field: at for at, field in enumerate(
    ("person", "earned", "freed", "worked", "paid", "open", "kept", "wrong", "advance"))}
FRACTIONS = ("earned", "freed", "open", "kept")
NUMBERS = ("worked", "paid", "wrong", "advance")

ONE = [
    ("ada", (9, 1), NOUGHT, 3, 1, (1, 2), (9, 2), 0, 0),
    ("bob", (-2, 1), NOUGHT, 0, 0, (-2, 1), NOUGHT, 3, 0),
    ("cy", (3, 1), NOUGHT, 0, 0, NOUGHT, (3, 1), 1, 1),
]
OTHER = [
    ("ada", (13, 3), (7, 2), 2, 3, (1, 3), (4, 1), 0, 0),
    ("bob", (-1, 2), NOUGHT, 0, 0, (-5, 2), NOUGHT, 3, 8),
    ("cy", (3, 2), (3, 1), 1, 3, NOUGHT, (1, 2), 0, 0),
]


def with_fields(rows, at, **fields):
    """The rows with some fields of one of them otherwise."""
    row = list(rows[at])
    for field, value in fields.items():
        row[PLACES[field]] = value
    return rows[:at] + [tuple(row)] + rows[at + 1:]


def is_told_fraction(thing):
    return (isinstance(thing, tuple) and [type(number) for number in thing] == [int, int] and thing[1] > 0
            and pair(Fraction(*thing)) == thing)


def wanted_shows(one, other):
    """Promise 14's clauses once more, of lists of tuples of nine things."""
    for rows in (one, other):
        names = [row[0] for row in rows]
        if names != sorted(set(names)):
            return False
        for row in rows:
            if not all(is_told_fraction(row[PLACES[field]]) for field in FRACTIONS):
                return False
            if not all(type(row[PLACES[field]]) is int and row[PLACES[field]] >= 0 for field in NUMBERS):
                return False
    if [row[0] for row in one] != [row[0] for row in other]:
        return False
    for row, later in zip(one, other):
        ready, kept = Fraction(*row[5]), Fraction(*row[6])
        earned, freed, later_ready, later_kept = (Fraction(*later[PLACES[field]]) for field in FRACTIONS)
        worked, paid, wrong, advance = (later[PLACES[field]] for field in NUMBERS)
        clauses = (later_ready + later_kept == ready + kept + earned - worked - paid, 0 <= freed <= kept,
                   later_kept >= 0, later_ready < 1, not paid or not wrong and not advance)
        if not all(clauses):
            return False
    return True


class ShowsCase(unittest.TestCase):
    def shows(self, wanted, one, other):
        """Told so of both, as lists and as tuples, and nothing handed in is changed."""
        forms = [(one, other)]
        if isinstance(one, list) and isinstance(other, list):
            forms = list(itertools.product((one, tuple(one)), (other, tuple(other))))
        for left, right in forms:
            with self.subTest(one=left, other=right):
                kept = copy.deepcopy((left, right))
                self.assertIs(shows_statements(left, right), wanted)
                self.assertEqual(repr((left, right)), repr(kept))


class TestShown(ShowsCase):
    def test_none_one_and_several_people(self):
        self.shows(True, [], [])
        for at in range(3):
            self.shows(True, ONE[at:at + 1], OTHER[at:at + 1])
        self.shows(True, ONE, OTHER)
        self.shows(True, ONE[:2], OTHER[:2])

    def test_what_is_told_of_halves_behind_one_another(self):
        book = book_with("ada bob", "ode")
        book.put_half(10)
        book.put_rows("ode", (("of", "ada", (1, 3)), ("left", "bob", (3, 4))))
        book.put_keep("ada", (1, 7))
        book.put_keep("bob", (1, 1))
        book.put_sold(3, "ode", 3, 100, "coin")
        book.put_back(12, "ode", 1, 5, "coin")
        book.put_debt("wrong", 13, "bob", 9)
        lists = [statement_list(book, half) for half in range(5)]
        for half in range(4):
            self.shows(True, lists[half], lists[half + 1])

    def test_the_same_half_twice(self):
        nothing = [("ada", NOUGHT, NOUGHT, 0, 0, NOUGHT, NOUGHT, 0, 0)]
        self.shows(True, nothing, nothing)
        # All that was earned was paid: it may have been so twice.
        paid = [("ada", (5, 1), NOUGHT, 0, 5, (1, 2), NOUGHT, 0, 0)]
        self.shows(True, paid, paid)
        self.shows(False, ONE, ONE)
        self.shows(False, OTHER, OTHER)
        freed = [("ada", (5, 1), (1, 1), 0, 5, (1, 2), NOUGHT, 0, 0)]
        self.shows(False, freed, freed)
        self.shows(True, with_fields(freed, 0, kept=(1, 1)), with_fields(freed, 0, kept=(1, 1)))

    def test_halves_that_are_no_neighbours(self):
        self.shows(False, OTHER, ONE)
        book = book_with("ada", "ode")
        book.put_half(10)
        book.put_rows("ode", (("of", "ada", (1, 1)),))
        book.put_sold(3, "ode", 1, 7, "coin")
        book.put_sold(23, "ode", 1, 9, "coin")
        lists = [statement_list(book, half) for half in range(5)]
        # Nothing stays open or kept behind any of these halves, so each may stand behind each.
        for one, other in itertools.product(lists, lists):
            self.shows(True, one, other)
        book.put_keep("ada", (1, 2))
        lists = [statement_list(book, half) for half in range(5)]
        shown = [(one, other) for one in range(5) for other in range(5) if shows_statements(lists[one], lists[other])]
        for one, other in itertools.product(range(5), range(5)):
            self.assertIs((one, other) in shown, wanted_shows(lists[one], lists[other]))
        self.assertEqual([one for one in range(4) if (one, one + 1) not in shown], [])
        self.assertIn((4, 4), shown)
        self.assertNotIn((0, 2), shown)

    def test_lists_and_numbers_of_any_size(self):
        one = [("ada", (10 ** 50, 1), NOUGHT, 0, 0, NOUGHT, (10 ** 50, 7 ** 60), 10 ** 70, 0)]
        ready = pair(Fraction(10 ** 50, 7 ** 60) + Fraction(1, 3 ** 90))
        other = [("ada", (1, 3 ** 90), NOUGHT, 0, 0, ready, NOUGHT, 10 ** 70, 1)]
        self.shows(True, one, with_fields(other, 0, freed=(10 ** 50, 7 ** 60)))
        self.shows(False, one, with_fields(other, 0, earned=(1, 3 ** 91)))
        names = [first + second for first in "abcdefghij" for second in "abcdefghij"]
        many = [(name, NOUGHT, NOUGHT, 0, 0, NOUGHT, NOUGHT, 0, 0) for name in names]
        self.shows(True, many, many)
        self.shows(False, many, many[1:])


class TestNames(ShowsCase):
    def test_twice_or_out_of_order(self):
        for at in range(3):
            self.shows(False, ONE[:at] + ONE[at:at + 1] + ONE[at:], OTHER[:at] + OTHER[at:at + 1] + OTHER[at:])
            self.shows(False, ONE + ONE[at:at + 1], OTHER + OTHER[at:at + 1])
            self.shows(False, ONE + ONE[at:at + 1], OTHER)
            self.shows(False, ONE, OTHER + OTHER[at:at + 1])
        for order in list(itertools.permutations(range(3)))[1:]:
            one, other = [ONE[at] for at in order], [OTHER[at] for at in order]
            self.shows(False, one, other)
            self.shows(False, one, OTHER)
            self.shows(False, ONE, other)

    def test_missing_in_one(self):
        for at in range(3):
            self.shows(False, ONE[:at] + ONE[at + 1:], OTHER)
            self.shows(False, ONE, OTHER[:at] + OTHER[at + 1:])
            self.shows(True, ONE[:at] + ONE[at + 1:], OTHER[:at] + OTHER[at + 1:])
        self.shows(False, ONE, [])
        self.shows(False, [], OTHER)

    def test_another_name_in_one(self):
        for at, name in enumerate(("ad", "bobs", "cz")):
            self.shows(False, with_fields(ONE, at, person=name), OTHER)
            self.shows(False, ONE, with_fields(OTHER, at, person=name))
            self.shows(True, with_fields(ONE, at, person=name), with_fields(OTHER, at, person=name))

    def test_no_name(self):
        for name in ("", "Ada", "a b", " ada", "ada ", "a1", "a-b", "abcdefghi", "~", 1, 0, True, None, ("ada",),
                     ["ada"], {"ada": 1}, NOUGHT):
            for at in range(3):
                self.shows(False, with_fields(ONE, at, person=name), OTHER)
                self.shows(False, ONE, with_fields(OTHER, at, person=name))
                self.shows(False, with_fields(ONE, at, person=name), with_fields(OTHER, at, person=name))
                self.shows(False, with_fields(ONE, at, person=name)[at:at + 1],
                           with_fields(OTHER, at, person=name)[at:at + 1])
        for name in ("a", "z", "abcdefgh", "coin", "person"):
            self.shows(True, with_fields(ONE[:1], 0, person=name), with_fields(OTHER[:1], 0, person=name))


class TestForms(ShowsCase):
    def broken(self, at, field, value):
        """Of no list, and of no two lists, in which this stands at that place."""
        one, other = with_fields(ONE, at, **{field: value}), with_fields(OTHER, at, **{field: value})
        for left, right in ((one, OTHER), (ONE, other), (one, other)):
            self.shows(False, left, right)

    def test_fractions_not_so_written(self):
        for at, field in itertools.product(range(3), FRACTIONS):
            for rows in (ONE, OTHER):
                top, below = rows[at][PLACES[field]]
                for value in ((2 * top, 2 * below), (-top, -below), [top, below], (top, below, 1), (top,), (),
                              (str(top), str(below)), ((top, 1), (below, 1)), f"{top}/{below}", {top: below},
                              (top, 0), (0, 0), (0, 2), (top, None), (None, below), (top, True), (True, below),
                              (False, 1), None, True, False, ""):
                    self.broken(at, field, value)

    def test_numbers_for_fractions(self):
        for at, field in itertools.product(range(3), FRACTIONS):
            for value in (0, 1, -1, ONE[at][PLACES[field]][0], OTHER[at][PLACES[field]][0]):
                self.broken(at, field, value)

    def test_numbers_not_so_written(self):
        for at, field in itertools.product(range(3), NUMBERS):
            for value in (-1, -10 ** 30, True, False, None, "", "0", "1", NOUGHT, (1, 1), (0,), [0], {}, {0: 0}):
                self.broken(at, field, value)

    def test_true_and_false_are_no_numbers_though_they_compare_alike(self):
        one = [("ada", NOUGHT, NOUGHT, 0, 0, NOUGHT, NOUGHT, 1, 1)]
        other = [("ada", (1, 1), NOUGHT, 1, 0, NOUGHT, NOUGHT, 1, 1)]
        self.shows(True, one, other)
        for field in NUMBERS:
            for rows, swap in ((one, lambda rows: (rows, other)), (other, lambda rows: (one, rows))):
                value = bool(rows[0][PLACES[field]])
                left, right = swap(with_fields(rows, 0, **{field: value}))
                self.assertEqual((left, right), (one, other))
                self.shows(False, left, right)

    def test_tuples_of_too_few_or_too_many_and_other_things(self):
        for at in range(3):
            for rows, swap in ((ONE, lambda rows: (rows, OTHER)), (OTHER, lambda rows: (ONE, rows))):
                row = rows[at]
                for value in (row[:-1], row[1:], row + (0,), row + (NOUGHT,), (0,) + row, row + row, list(row), (row,),
                              [row], (), [], {}, None, True, 0, row[0], dict(enumerate(row)), row[:1] + (row[1:],)):
                    left, right = swap(rows[:at] + [value] + rows[at + 1:])
                    self.shows(False, left, right)
                    left, right = swap(rows[:at] + [value] + rows[at:])
                    self.shows(False, left, right)

    def test_things_of_any_other_make(self):
        deep = 1
        for turn in range(9):
            deep = [deep] if turn % 2 else (deep,)
        things = (None, True, False, 0, 1, -7, 10 ** 99, "", "ada", "~ [](),", {}, {"ada": ONE[0]}, {0: ONE[0]},
                  dict(enumerate(ONE)), [None], (None,), [[]], ((),), [()], ([],), [{}], [0], (1, 2), ["ada"], deep,
                  [deep], [(deep,) * 9], ("ada",) + ONE[0][1:], ONE[0], list(ONE[0]), [ONE], (ONE,), [tuple(ONE)],
                  [ONE[0], None], [None, ONE[0]], [("ada",) * 9], [(None,) * 9], [(0,) * 9], [(NOUGHT,) * 9],
                  [("ada", {}, {}, {}, {}, {}, {}, {}, {})])
        for thing in things:
            for right in ([], (), ONE, OTHER, tuple(OTHER), thing):
                self.shows(False, thing, right)
                self.shows(False, right, thing)
        for one, other in itertools.product(things, things):
            self.assertIs(shows_statements(one, other), False)


class TestClauses(ShowsCase):
    def test_a_sum_that_does_not_come_out(self):
        for at in range(3):
            for field in ("earned", "open", "kept"):
                for step in (Fraction(1), Fraction(-1), Fraction(1, 10 ** 40), Fraction(-1, 10 ** 40)):
                    value = pair(Fraction(*OTHER[at][PLACES[field]]) + step)
                    self.shows(False, ONE, with_fields(OTHER, at, **{field: value}))
            for field in ("open", "kept"):
                for step in (Fraction(1, 9), Fraction(1, 10 ** 40)):
                    value = pair(Fraction(*ONE[at][PLACES[field]]) + step)
                    self.shows(False, with_fields(ONE, at, **{field: value}), OTHER)
            for field in ("worked", "paid"):
                self.shows(False, ONE, with_fields(OTHER, at, **{field: OTHER[at][PLACES[field]] + 1}))
        self.shows(False, ONE, with_fields(OTHER, 0, worked=1))
        self.shows(False, ONE, with_fields(OTHER, 0, paid=2))
        self.shows(True, ONE, with_fields(OTHER, 0, worked=1, paid=4))

    def test_what_one_earned_and_spent_is_no_matter(self):
        for at in range(3):
            for fields in ({"earned": (99, 7)}, {"earned": (-99, 7)}, {"freed": (99, 7)}, {"freed": (-1, 7)},
                           {"worked": 99}, {"paid": 99}, {"wrong": 99}, {"advance": 99}, {"paid": 9, "wrong": 9}):
                self.shows(True, with_fields(ONE, at, **fields), OTHER)

    def test_what_one_has_open_may_be_any(self):
        for coins in (1, 2, 99):
            self.shows(True, with_fields(ONE, 0, open=(coins, 1)),
                       with_fields(OTHER, 0, earned=pair(Fraction(13, 3) + Fraction(1, 2) - coins)))

    def test_freed_is_from_nought_to_ones_kept(self):
        for freed in (NOUGHT, (1, 10 ** 40), (1, 1), (9, 2)):
            self.shows(True, ONE, with_fields(OTHER, 0, freed=freed))
        for freed in ((-1, 10 ** 40), (-1, 1), (5, 1), pair(Fraction(9, 2) + Fraction(1, 10 ** 40))):
            self.shows(False, ONE, with_fields(OTHER, 0, freed=freed))
        for freed in ((1, 10 ** 40), (-1, 10 ** 40)):
            self.shows(False, ONE, with_fields(OTHER, 1, freed=freed))
        # Where less than nought was kept no freed lies between.
        for freed in (NOUGHT, (-1, 2), (-1, 1)):
            self.shows(False, with_fields(ONE, 1, kept=(-1, 1), open=(-1, 1)), with_fields(OTHER, 1, freed=freed))

    def test_kept_is_no_less_than_nought(self):
        for kept in (NOUGHT, (1, 10 ** 40), (7, 1)):
            ready = pair(Fraction(-5, 2) - Fraction(*kept))
            self.shows(True, ONE, with_fields(OTHER, 1, open=ready, kept=kept))
        for kept in ((-1, 10 ** 40), (-1, 2), (-5, 2)):
            ready = pair(Fraction(-5, 2) - Fraction(*kept))
            self.shows(False, ONE, with_fields(OTHER, 1, open=ready, kept=kept))

    def test_open_is_less_than_one(self):
        for ready in (NOUGHT, (-99, 1), (1, 2), pair(1 - Fraction(1, 10 ** 40))):
            kept = pair(Fraction(13, 3) - Fraction(*ready))
            self.shows(True, ONE, with_fields(OTHER, 0, open=ready, kept=kept))
        for ready in ((1, 1), pair(1 + Fraction(1, 10 ** 40)), (2, 1), (13, 3)):
            kept = pair(Fraction(13, 3) - Fraction(*ready))
            self.shows(False, ONE, with_fields(OTHER, 0, open=ready, kept=kept))

    def test_nothing_is_owed_where_something_is_paid(self):
        for at in (0, 2):
            for fields in ({"wrong": 1}, {"advance": 1}, {"wrong": 1, "advance": 1}, {"advance": 10 ** 30}):
                self.shows(False, ONE, with_fields(OTHER, at, **fields))
                spent = OTHER[at][PLACES["worked"]] + OTHER[at][PLACES["paid"]]
                self.shows(True, ONE, with_fields(OTHER, at, worked=spent, paid=0, **fields))
        for fields in ({"wrong": 0}, {"advance": 0}, {"wrong": 0, "advance": 0}, {"wrong": 1, "advance": 1}):
            self.shows(True, ONE, with_fields(OTHER, 1, **fields))

    def test_one_wrong_name_among_right_ones_is_enough(self):
        for at in range(3):
            worse = with_fields(OTHER, at, freed=(-1, 1))
            self.shows(False, ONE, worse)
            self.shows(True, ONE[:at] + ONE[at + 1:], worse[:at] + worse[at + 1:])


class TestAll(ShowsCase):
    def test_any_two_halves_and_a_little_otherwise(self):
        draw, shown = random.Random(85), {True: 0, False: 0}
        for turn in range(25):
            book = drawn_ending_book(draw)
            lists = [statement_list(book, half) for half in range(40 // book.half_days() + 3)]
            for one, other in itertools.product(draw.sample(lists, min(5, len(lists))), repeat=2):
                wanted = wanted_shows(one, other)
                shown[wanted] += 1
                self.assertIs(shows_statements(one, other), wanted)
            for one, other in zip(lists, lists[1:]):
                self.assertIs(shows_statements(one, other), True)
                field, at = draw.choice(FRACTIONS + NUMBERS), draw.randrange(len(other))
                value = other[at][PLACES[field]]
                step = draw.choice((-1, 1, Fraction(1, 7)) if field in FRACTIONS else (-1, 1))
                value = pair(Fraction(*value) + step) if field in FRACTIONS else value + step
                changed = with_fields(other, at, **{field: value})
                wanted = wanted_shows(one, changed)
                shown[wanted] += 1
                self.assertIs(shows_statements(one, changed), wanted)
        self.assertGreater(min(shown.values()), 30)


if __name__ == "__main__":
    unittest.main()
