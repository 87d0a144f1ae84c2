"""Promise 14: what statements tell of each person, half by half."""

import random
import unittest
from fractions import Fraction

from reckoning import (BookCase, WantedEndless, book_with, drawn_book, drawn_ending_book, pair, told_of,
                       wanted_statements)
from royaltree.errors import Endless, RoyalError
from royaltree.ledger import Ledger
from royaltree.statements import shows_statements, statement_list

NOUGHT = (0, 1)
FIELDS = ("earned", "freed", "worked", "paid", "open", "kept", "wrong", "advance")
NOTHING = {field: NOUGHT if field in ("earned", "freed", "open", "kept") else 0 for field in FIELDS}


def row(name, **wanted):
    """A statement; what is not named is nothing."""
    return (name,) + tuple({**NOTHING, **wanted}[field] for field in FIELDS)


def one_work(half=10, keep=NOUGHT, people="ada"):
    """A book in which all that is sold is ada's."""
    book = book_with(people, "ode")
    book.put_half(half)
    book.put_rows("ode", (("of", "ada", (1, 1)),))
    book.put_keep("ada", keep)
    return book


class StatementCase(BookCase):
    def told(self, book, half, *rows):
        with self.subTest(half=half):
            before = told_of(book)
            told = statement_list(book, half)
            self.assertEqual(told, list(rows))
            self.assertIs(type(told), list)
            for one in told:
                self.assertIs(type(one), tuple)
                self.assertEqual([type(thing) for thing in one[1:]], [tuple, tuple, int, int, tuple, tuple, int, int])
            self.assertEqual(told_of(book), before)

    def endless(self, book, half, names):
        with self.subTest(half=half):
            with self.assertRaises(RoyalError) as caught:
                statement_list(book, half)
            self.assertIs(type(caught.exception), Endless)
            self.assertEqual(caught.exception.names, names)

    def fits_ledgers(self, book, half):
        """A statement beside Ledgers of the half's last day and of the day ahead of its first one."""
        first = half * book.half_days()
        behind = Ledger(book, first + book.half_days() - 1)
        ahead = Ledger(book, first - 1) if first else None
        for person, earned, freed, worked, paid, ready, kept, wrong, advance in statement_list(book, half):
            due, was_worked, was_paid = NOUGHT, 0, 0
            if ahead:
                due, was_worked, was_paid = ahead.due_of(person), ahead.worked_of(person), ahead.paid_of(person)
            self.assertEqual(earned, pair(Fraction(*behind.due_of(person)) - Fraction(*due)))
            self.assertEqual(worked, behind.worked_of(person) - was_worked)
            self.assertEqual(paid, behind.paid_of(person) - was_paid)
            self.assertEqual((ready, kept), (behind.open_of(person), behind.kept_of(person)))
            self.assertEqual((wrong, advance), behind.debt_of(person))


class TestNothing(StatementCase):
    def test_a_book_without_people(self):
        book = book_with("")
        for half in (0, 1, 9999):
            self.told(book, half)
        book = book_with("", "ode")
        book.put_sold(3, "ode", 1, 9, "coin")
        for half in (0, 1, 9999):
            self.told(book, half)

    def test_people_to_whom_nothing_came(self):
        book = book_with("cy ada bob", "ode")
        book.put_sold(3, "ode", 1, 9, "coin")
        for half in (0, 1, 2, 9999):
            self.told(book, half, row("ada"), row("bob"), row("cy"))

    def test_halves_in_which_nothing_is_done(self):
        book = one_work()
        book.put_sold(25, "ode", 1, 9, "coin")
        book.put_sold(61, "ode", 1, 5, "coin")
        paid = {2: 9, 6: 5}
        for half in range(9):
            coins = paid.get(half, 0)
            self.told(book, half, row("ada", earned=(coins, 1), paid=coins))

    def test_halves_behind_all_rows_stand_as_they_were_left(self):
        book = book_with("ada bob", "ode")
        book.put_half(10)
        book.put_rows("ode", (("of", "ada", (1, 3)), ("of", "bob", (1, 2))))
        book.put_sold(5, "ode", 1, 4, "coin")
        book.put_back(15, "ode", 1, 7, "coin")
        book.put_debt("wrong", 16, "ada", 3)
        book.put_debt("advance", 16, "bob", 4)
        self.told(book, 0, row("ada", earned=(4, 3), paid=1, open=(1, 3)), row("bob", earned=(2, 1), paid=2))
        self.told(book, 1, row("ada", earned=(-7, 3), open=(-2, 1), wrong=3),
                  row("bob", earned=(-7, 2), open=(-7, 2), advance=4))
        for half in (2, 3, 50, 999, 9999):
            self.told(book, half, row("ada", open=(-2, 1), wrong=3), row("bob", open=(-7, 2), advance=4))


class TestHalves(StatementCase):
    def test_half_nought(self):
        book = one_work(half=7)
        book.put_sold(0, "ode", 1, 3, "coin")
        book.put_sold(6, "ode", 1, 4, "coin")
        book.put_sold(7, "ode", 1, 5, "coin")
        self.told(book, 0, row("ada", earned=(7, 1), paid=7))
        self.told(book, 1, row("ada", earned=(5, 1), paid=5))

    def test_halves_of_one_day(self):
        book = one_work(half=1, keep=(1, 2))
        for day in (0, 1, 3):
            book.put_sold(day, "ode", 1, 4, "coin")
        self.told(book, 0, row("ada", earned=(4, 1), paid=2, kept=(2, 1)))
        self.told(book, 1, row("ada", earned=(4, 1), freed=(2, 1), paid=4, kept=(2, 1)))
        self.told(book, 2, row("ada", freed=(2, 1), paid=2))
        self.told(book, 3, row("ada", earned=(4, 1), paid=2, kept=(2, 1)))
        self.told(book, 4, row("ada", freed=(2, 1), paid=2))
        self.told(book, 5, row("ada"))
        self.told(book, 9999, row("ada"))

    def test_the_last_days_of_halves_of_400_days(self):
        book = one_work(half=400, keep=(1, 3))
        book.put_sold(9999, "ode", 1, 10, "coin")
        # Day 9,999 is the last one of half 24.
        self.told(book, 23, row("ada"))
        self.told(book, 24, row("ada", earned=(10, 1), paid=6, open=(2, 3), kept=(10, 3)))
        self.told(book, 25, row("ada", freed=(10, 3), paid=4))
        self.told(book, 26, row("ada"))
        self.told(book, 9999, row("ada"))

    def test_half_9999_at_its_day(self):
        book = one_work(half=1, keep=(1, 2))
        book.put_sold(9998, "ode", 1, 6, "coin")
        book.put_sold(9999, "ode", 1, 10, "coin")
        self.told(book, 9999, row("ada", earned=(10, 1), freed=(3, 1), paid=8, kept=(5, 1)))

    def test_halves_of_182_days_at_first(self):
        book = book_with("ada", "ode")
        book.put_rows("ode", (("of", "ada", (1, 1)),))
        book.put_sold(181, "ode", 1, 5, "coin")
        book.put_sold(182, "ode", 1, 6, "coin")
        self.told(book, 0, row("ada", earned=(5, 1), paid=5))
        self.told(book, 1, row("ada", earned=(6, 1), paid=6))

    def test_names_rise(self):
        book = book_with("zed b ab a ba", "ode")
        book.put_rows("ode", tuple(("of", name, (1, 5)) for name in ("b", "zed", "a", "ba", "ab")))
        book.put_sold(0, "ode", 1, 5, "coin")
        self.told(book, 0, *[row(name, earned=(1, 1), paid=1) for name in ("a", "ab", "b", "ba", "zed")])


class TestFields(StatementCase):
    def test_earned_below_nought(self):
        book = one_work()
        book.put_sold(5, "ode", 1, 8, "coin")
        book.put_back(15, "ode", 1, 20, "coin")
        book.put_sold(16, "ode", 1, 5, "coin")
        book.put_sold(25, "ode", 1, 30, "coin")
        self.told(book, 0, row("ada", earned=(8, 1), paid=8))
        self.told(book, 1, row("ada", earned=(-15, 1), open=(-15, 1)))
        self.told(book, 2, row("ada", earned=(30, 1), paid=15))

    def test_earned_of_what_comes_and_goes_in_one_half(self):
        book = one_work(keep=(1, 2))
        book.put_sold(5, "ode", 1, 8, "coin")
        book.put_back(6, "ode", 1, 8, "coin")
        # Of 8, 4 were kept and 4 open; of what goes, the first 4 come from what is kept.
        self.told(book, 0, row("ada"))
        self.told(book, 1, row("ada"))

    def test_freed_what_was_kept_in_the_half_ahead(self):
        book = one_work(keep=(1, 4))
        book.put_sold(5, "ode", 1, 12, "coin")
        book.put_sold(15, "ode", 1, 20, "coin")
        self.told(book, 0, row("ada", earned=(12, 1), paid=9, kept=(3, 1)))
        self.told(book, 1, row("ada", earned=(20, 1), freed=(3, 1), paid=18, kept=(5, 1)))
        self.told(book, 2, row("ada", freed=(5, 1), paid=5))
        self.told(book, 3, row("ada"))

    def test_freed_where_something_was_taken_back_between(self):
        for amount, earned, freed, kept, paid, ready in (
                (2, 18, (1, 1), (5, 1), 16, NOUGHT), (3, 17, NOUGHT, (5, 1), 15, NOUGHT),
                (5, 15, NOUGHT, (3, 1), 15, NOUGHT), (8, 12, NOUGHT, NOUGHT, 15, NOUGHT),
                (10, 10, NOUGHT, NOUGHT, 13, NOUGHT), (30, -10, NOUGHT, NOUGHT, 0, (-7, 1))):
            book = one_work(keep=(1, 4))
            book.put_sold(5, "ode", 9, 12, "coin")
            book.put_sold(15, "ode", 1, 20, "coin")
            book.put_back(19, "ode", 1, amount, "coin")
            self.told(book, 1, row("ada", earned=(earned, 1), freed=freed, paid=paid, open=ready, kept=kept))

    def test_worked_and_paid_of_that_half_alone(self):
        book = one_work()
        book.put_debt("advance", 0, "ada", 12)
        book.put_debt("wrong", 21, "ada", 4)
        for day in (5, 15, 25, 35):
            book.put_sold(day, "ode", 1, 10, "coin")
        self.told(book, 0, row("ada", earned=(10, 1), worked=10, advance=2))
        self.told(book, 1, row("ada", earned=(10, 1), worked=2, paid=8))
        self.told(book, 2, row("ada", earned=(10, 1), worked=4, paid=6))
        self.told(book, 3, row("ada", earned=(10, 1), paid=10))

    def test_wrong_and_advance_as_they_stand_behind_it(self):
        book = one_work()
        book.put_debt("advance", 3, "ada", 5)
        book.put_debt("wrong", 9, "ada", 7)
        book.put_debt("advance", 10, "ada", 6)
        book.put_sold(9, "ode", 1, 9, "coin")
        book.put_sold(12, "ode", 1, 4, "coin")
        book.put_debt("wrong", 20, "ada", 1)
        self.told(book, 0, row("ada", earned=(9, 1), worked=9, advance=3))
        self.told(book, 1, row("ada", earned=(4, 1), worked=4, advance=5))
        self.told(book, 2, row("ada", wrong=1, advance=5))
        self.told(book, 9, row("ada", wrong=1, advance=5))

    def test_less_than_a_coin_stays_open(self):
        book = book_with("ada", "ode")
        book.put_half(10)
        book.put_rows("ode", (("of", "ada", (2, 3)),))
        for day in (0, 10, 20):
            book.put_sold(day, "ode", 1, 1, "coin")
        self.told(book, 0, row("ada", earned=(2, 3), open=(2, 3)))
        self.told(book, 1, row("ada", earned=(2, 3), paid=1, open=(1, 3)))
        self.told(book, 2, row("ada", earned=(2, 3), paid=1))

    def test_what_is_handed_on_is_earned_where_it_stays(self):
        book = one_work(people="ada bob cy")
        book.hand_on("ada", 12, "bob", (1, 2))
        book.hand_on("bob", 0, "cy", (1, 5))
        for day in (5, 15):
            book.put_sold(day, "ode", 1, 20, "coin")
        self.told(book, 0, row("ada", earned=(20, 1), paid=20), row("bob"), row("cy"))
        self.told(book, 1, row("ada", earned=(10, 1), paid=10), row("bob", earned=(8, 1), paid=8),
                  row("cy", earned=(2, 1), paid=2))

    def test_makers_who_become_known_with_something_waiting(self):
        book = book_with("ada bob", "ode")
        book.put_half(10)
        book.put_rows("ode", (("of", "bob", (1, 4)),))
        book.put_keep("ada", (1, 3))
        book.put_sold(5, "ode", 1, 16, "coin")
        book.make_known("ode", 12, "ada")
        self.told(book, 0, row("ada"), row("bob", earned=(4, 1), paid=4))
        self.told(book, 1, row("ada", earned=(12, 1), paid=8, kept=(4, 1)), row("bob"))
        self.told(book, 2, row("ada", freed=(4, 1), paid=4), row("bob"))

    def test_makers_to_whom_less_than_nought_comes(self):
        book = book_with("ada", "ode")
        book.put_half(10)
        book.put_sold(1, "ode", 1, 5, "coin")
        book.put_back(2, "ode", 1, 9, "coin")
        book.make_known("ode", 9, "ada")
        self.told(book, 0, row("ada", earned=(-4, 1), open=(-4, 1)))
        self.told(book, 1, row("ada", open=(-4, 1)))

    def test_rows_alike_count_each(self):
        book = one_work()
        for turn in range(3):
            book.put_sold(4, "ode", 1, 5, "coin")
            book.put_debt("wrong", 4, "ada", 2)
            book.put_debt("advance", 4, "ada", 1)
        for turn in range(2):
            book.put_back(5, "ode", 1, 1, "coin")
        self.told(book, 0, row("ada", earned=(13, 1), worked=9, paid=4))


class TestEndless(StatementCase):
    def ring(self):
        book = one_work(people="ada bob")
        book.add_work("song")
        book.hand_on("ada", 12, "bob", (1, 1))
        book.hand_on("bob", 0, "ada", (1, 1))
        return book

    def test_of_rows_up_to_the_halfs_end_and_of_none_behind_it(self):
        for day, half in ((12, 1), (19, 1), (20, 2)):
            book = self.ring()
            book.put_sold(5, "ode", 1, 6, "coin")
            book.put_sold(day, "ode", 1, 6, "coin")
            for at in range(half):
                coins = 6 if at == 0 else 0
                self.told(book, at, row("ada", earned=(coins, 1), paid=coins), row("bob"))
            for at in (half, half + 1, 9999):
                self.endless(book, at, ("ada", "bob", "ode"))

    def test_of_a_maker(self):
        book = self.ring()
        book.put_sold(5, "song", 1, 6, "coin")
        book.make_known("song", 14, "bob")
        self.told(book, 0, row("ada"), row("bob"))
        for half in (1, 2, 9999):
            self.endless(book, half, ("ada", "bob"))

    def test_of_the_first_row(self):
        book = self.ring()
        book.put_rows("song", (("of", "song", (1, 1)),))
        book.put_sold(29, "ode", 1, 6, "coin")
        book.put_sold(28, "song", 1, 6, "coin")
        self.told(book, 1, row("ada"), row("bob"))
        self.endless(book, 2, ("song",))

    def test_of_a_book_without_people(self):
        book = book_with("", "ode")
        book.put_half(10)
        book.put_rows("ode", (("left", "ode", (1, 1)),))
        book.put_sold(10, "ode", 1, 1, "coin")
        self.told(book, 0)
        self.endless(book, 1, ("ode",))


class TestAll(StatementCase):
    def test_against_going_day_by_day(self):
        draw, went, ends = random.Random(81), 0, 0
        for turn in range(60):
            book = drawn_book(draw)
            for half in (0, draw.randint(0, 40 // book.half_days() + 2)):
                try:
                    wanted = wanted_statements(book, half)
                except WantedEndless as refusal:
                    ends += 1
                    self.endless(book, half, refusal.names)
                else:
                    went += 1
                    self.told(book, half, *wanted)
        self.assertGreater(went, 60)
        self.assertGreater(ends, 5)

    def test_beside_ledgers_and_behind_one_another(self):
        draw, freed = random.Random(82), 0
        for turn in range(25):
            book = drawn_ending_book(draw)
            lists = [statement_list(book, half) for half in range(45 // book.half_days() + 3)]
            for half, told in enumerate(lists):
                self.fits_ledgers(book, half)
                freed += sum(one[2] != NOUGHT for one in told)
            for one, other in zip(lists, lists[1:]):
                self.assertIs(shows_statements(one, other), True)
        self.assertGreater(freed, 20)


if __name__ == "__main__":
    unittest.main()
