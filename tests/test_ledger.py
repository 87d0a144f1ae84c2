"""Promises 12 and 13: going through the days, and whose each coin is behind one of them."""

import random
import unittest
from fractions import Fraction

from reckoning import PEOPLE, WORKS, BookCase, WantedEndless, WantedLedger, book_with, drawn_book, pair, told_by
from royaltree.errors import Endless, NoName, RoyalError
from royaltree.ledger import Ledger, credit_list

NOUGHT = (0, 1)


class LedgerCase(BookCase):
    def person(self, book, day, name, **wanted):
        """What a Ledger of that day tells of a person; what is not named is nothing."""
        with self.subTest(day=day, name=name):
            ledger = Ledger(book, day)
            told = {"open": ledger.open_of(name), "kept": ledger.kept_of(name), "debt": ledger.debt_of(name),
                    "worked": ledger.worked_of(name), "paid": ledger.paid_of(name)}
            nothing = {"open": NOUGHT, "kept": NOUGHT, "debt": (0, 0), "worked": 0, "paid": 0}
            self.assertEqual(told, {**nothing, **wanted})
            due = Fraction(*told["open"]) + Fraction(*told["kept"]) + told["worked"] + told["paid"]
            self.assertEqual(ledger.due_of(name), pair(due))

    def endless(self, book, day, names):
        with self.subTest(day=day):
            with self.assertRaises(RoyalError) as caught:
                Ledger(book, day)
            self.assertIs(type(caught.exception), Endless)
            self.assertEqual(caught.exception.names, names)
            self.assertIs(type(caught.exception.names), tuple)

    def sums_to_what_came_in(self, book, ledger):
        due = [ledger.due_of(person) for person in book.person_names()]
        waits = [ledger.waits_of(work) for work in book.work_names()]
        self.assertEqual(pair(sum((Fraction(*coins) for coins in due + waits), Fraction(0))), ledger.came_in())


def one_work(half=10, keep=NOUGHT, people="ada bob"):
    """A book in which all that is sold is ada's."""
    book = book_with(people, "ode")
    book.put_half(half)
    book.put_rows("ode", (("of", "ada", (1, 1)),))
    book.put_keep("ada", keep)
    return book


class TestAsks(LedgerCase):
    def test_of_a_book_without_anything(self):
        self.assertEqual(Ledger(book_with(""), 0).came_in(), NOUGHT)
        self.assertEqual(Ledger(book_with(""), 9999).came_in(), NOUGHT)

    def test_of_people_and_works_to_whom_nothing_came(self):
        book = book_with("ada", "ode")
        for day in (0, 181, 182, 9999):
            self.person(book, day, "ada")
            self.assertEqual(Ledger(book, day).waits_of("ode"), NOUGHT)

    def test_kinds(self):
        book = one_work(keep=(1, 2))
        book.put_sold(0, "ode", 1, 9, "coin")
        book.put_debt("wrong", 0, "ada", 1)
        for day in (0, 9, 19):
            ledger = Ledger(book, day)
            for told in (ledger.open_of("ada"), ledger.kept_of("ada"), ledger.debt_of("ada"), ledger.due_of("ada"),
                         ledger.waits_of("ode"), ledger.came_in()):
                self.assertEqual((type(told), [type(number) for number in told]), (tuple, [int, int]))
            self.assertEqual((type(ledger.worked_of("ada")), type(ledger.paid_of("ada"))), (int, int))

    def test_no_name(self):
        book = one_work()
        ledger = Ledger(book, 50)
        book.add_person("eve")
        book.add_work("song")
        for name in ("eve", "song", "", "Ada", "a b", "coin", "ode"):
            for ask in ("open_of", "kept_of", "debt_of", "worked_of", "paid_of", "due_of"):
                with self.assertRaises(RoyalError) as caught:
                    getattr(ledger, ask)(name)
                self.assertIs(type(caught.exception), NoName)
        for name in ("eve", "song", "", "Ada", "a b", "coin", "ada"):
            with self.assertRaises(RoyalError) as caught:
                ledger.waits_of(name)
            self.assertIs(type(caught.exception), NoName)

    def test_came_in_of_rows_up_to_the_day(self):
        book = book_with("", "ode song")
        book.put_rate("eur", 0, (1, 3))
        book.put_rate("eur", 7, (1, 2))
        book.put_sold(5, "ode", 1, 10, "coin")
        book.put_sold(6, "song", 1, 10, "eur")
        book.put_back(7, "ode", 1, 5, "eur")
        book.put_back(7, "song", 1, 30, "coin")
        for day, coins in ((0, NOUGHT), (4, NOUGHT), (5, (10, 1)), (6, (40, 3)), (7, (-115, 6)), (9999, (-115, 6))):
            self.assertEqual(Ledger(book, day).came_in(), coins)
        self.assertEqual((Ledger(book, 9).waits_of("ode"), Ledger(book, 9).waits_of("song")), ((15, 2), (-80, 3)))


class TestHalves(LedgerCase):
    def test_day_nought(self):
        book = one_work(half=2)
        book.put_sold(0, "ode", 1, 7, "coin")
        self.person(book, 0, "ada", open=(7, 1))
        self.person(book, 1, "ada", paid=7)
        book.put_half(1)
        self.person(book, 0, "ada", paid=7)

    def test_a_halfs_last_day_and_the_days_beside_it(self):
        book = one_work(half=10)
        for day in (8, 9, 10):
            book.put_sold(day, "ode", 1, day, "coin")
        self.person(book, 7, "ada")
        self.person(book, 8, "ada", open=(8, 1))
        self.person(book, 9, "ada", paid=17)
        self.person(book, 10, "ada", open=(10, 1), paid=17)
        self.person(book, 18, "ada", open=(10, 1), paid=17)
        self.person(book, 19, "ada", paid=27)
        self.person(book, 20, "ada", paid=27)

    def test_halves_of_182_days_at_first(self):
        book = book_with("ada", "ode")
        book.put_rows("ode", (("of", "ada", (1, 1)),))
        book.put_sold(181, "ode", 1, 5, "coin")
        book.put_sold(182, "ode", 1, 5, "coin")
        self.person(book, 180, "ada")
        self.person(book, 181, "ada", paid=5)
        self.person(book, 362, "ada", open=(5, 1), paid=5)
        self.person(book, 363, "ada", paid=10)

    def test_days_far_behind_all_rows(self):
        book = one_work(half=1, keep=(1, 2))
        book.put_sold(3, "ode", 1, 7, "coin")
        self.person(book, 3, "ada", open=(1, 2), kept=(7, 2), paid=3)
        for day in (4, 5, 6, 100, 9999, 10 ** 6):
            self.person(book, day, "ada", paid=7)
        book.put_half(400)
        self.person(book, 399, "ada", open=(1, 2), kept=(7, 2), paid=3)
        self.person(book, 798, "ada", open=(1, 2), kept=(7, 2), paid=3)
        self.person(book, 799, "ada", paid=7)

    def test_less_than_a_coin_stays_open(self):
        book = book_with("ada bob", "ode")
        book.put_half(10)
        book.put_rows("ode", (("of", "ada", (1, 3)), ("of", "bob", (2, 3))))
        book.put_sold(0, "ode", 1, 2, "coin")
        book.put_sold(10, "ode", 1, 1, "coin")
        book.put_sold(20, "ode", 1, 3, "coin")
        self.person(book, 9, "ada", open=(2, 3))
        self.person(book, 9, "bob", open=(1, 3), paid=1)
        self.person(book, 19, "ada", paid=1)
        self.person(book, 19, "bob", paid=2)
        self.person(book, 29, "ada", paid=2)
        self.person(book, 29, "bob", paid=4)

    def test_just_a_coin_is_paid_and_a_little_less_is_not(self):
        book = one_work()
        book.put_rate("eur", 0, (999, 1000))
        book.put_sold(0, "ode", 1, 1, "eur")
        self.person(book, 9, "ada", open=(999, 1000))
        book.put_rate("usd", 0, (1, 1000))
        book.put_sold(0, "ode", 1, 1, "usd")
        self.person(book, 9, "ada", paid=1)

    def test_below_nought_nothing_is_paid(self):
        book = one_work()
        book.put_sold(0, "ode", 1, 5, "coin")
        book.put_back(10, "ode", 1, 9, "coin")
        self.person(book, 9, "ada", paid=5)
        self.person(book, 19, "ada", open=(-9, 1), paid=5)
        self.person(book, 99, "ada", open=(-9, 1), paid=5)
        book.put_sold(100, "ode", 1, 11, "coin")
        self.person(book, 109, "ada", paid=7)


class TestKeeps(LedgerCase):
    def test_keeps_of_nought_a_part_and_all(self):
        for keep, first, kept in ((NOUGHT, 12, NOUGHT), ((1, 4), 9, (3, 1)), ((1, 1), 0, (12, 1))):
            book = one_work(keep=keep)
            book.put_sold(5, "ode", 1, 12, "coin")
            self.person(book, 5, "ada", open=(first, 1), kept=kept)
            self.person(book, 9, "ada", kept=kept, paid=first)
            self.person(book, 18, "ada", kept=kept, paid=first)
            self.person(book, 19, "ada", paid=12)

    def test_opened_behind_the_next_half(self):
        book = one_work(keep=(1, 2))
        for day in (9, 10, 25):
            book.put_sold(day, "ode", 1, 2 * day, "coin")
        self.person(book, 9, "ada", kept=(9, 1), paid=9)
        self.person(book, 10, "ada", open=(10, 1), kept=(19, 1), paid=9)
        self.person(book, 18, "ada", open=(10, 1), kept=(19, 1), paid=9)
        self.person(book, 19, "ada", kept=(10, 1), paid=28)
        self.person(book, 28, "ada", open=(25, 1), kept=(35, 1), paid=28)
        self.person(book, 29, "ada", kept=(25, 1), paid=63)
        self.person(book, 39, "ada", paid=88)

    def test_on_all_days_whatever_was_told_ahead(self):
        book = one_work(keep=(1, 3))
        book.put_sold(0, "ode", 1, 12, "coin")
        book.put_keep("ada", (3, 4))
        self.person(book, 0, "ada", open=(3, 1), kept=(9, 1))

    def test_of_each_person_alone(self):
        book = book_with("ada bob", "ode")
        book.put_half(10)
        book.put_keep("bob", (1, 2))
        book.put_rows("ode", (("length", "ada", 1), ("length", "bob", 1)))
        book.put_sold(0, "ode", 1, 12, "coin")
        self.person(book, 9, "ada", paid=6)
        self.person(book, 9, "bob", kept=(3, 1), paid=3)

    def test_kept_fractions_are_put_together_and_the_whole_coins_of_them_paid(self):
        book = one_work(keep=(1, 2))
        book.put_sold(0, "ode", 1, 1, "coin")
        book.put_sold(10, "ode", 1, 1, "coin")
        self.person(book, 9, "ada", open=(1, 2), kept=(1, 2))
        self.person(book, 19, "ada", open=(1, 2), kept=(1, 2), paid=1)
        self.person(book, 29, "ada", paid=2)


class TestBack(LedgerCase):
    def test_from_what_is_kept_first_then_from_what_is_open(self):
        for amount, opened, kept in ((2, (9, 1), (1, 1)), (3, (9, 1), NOUGHT), (4, (8, 1), NOUGHT),
                                     (12, NOUGHT, NOUGHT), (20, (-8, 1), NOUGHT)):
            book = one_work(keep=(1, 4))
            book.put_sold(5, "ode", 1, 12, "coin")
            book.put_back(6, "ode", 1, amount, "coin")
            self.person(book, 6, "ada", open=opened, kept=kept)

    def test_of_the_oldest_half_first(self):
        for amount, kept_behind in ((4, (10, 1)), (6, (10, 1)), (9, (7, 1))):
            book = one_work(keep=(1, 2))
            book.put_sold(5, "ode", 1, 12, "coin")
            book.put_sold(15, "ode", 1, 20, "coin")
            book.put_back(16, "ode", 1, amount, "coin")
            # Of the first half 6 were kept and 6 paid, of the second 10 are kept and 10 open.
            self.person(book, 16, "ada", open=(10, 1), kept=(16 - amount, 1), paid=6)
            self.person(book, 19, "ada", kept=kept_behind, paid=22 - min(amount, 6))
            self.person(book, 29, "ada", paid=32 - amount)

    def test_of_three_halves_two_are_kept(self):
        book = one_work(keep=(1, 2))
        for day in (5, 15, 25):
            book.put_sold(day, "ode", 1, 2 * day, "coin")
        book.put_back(26, "ode", 1, 30, "coin")
        self.person(book, 25, "ada", open=(25, 1), kept=(40, 1), paid=25)
        self.person(book, 26, "ada", open=(25, 1), kept=(10, 1), paid=25)
        self.person(book, 29, "ada", kept=(10, 1), paid=50)
        book.put_back(27, "ode", 1, 30, "coin")
        self.person(book, 27, "ada", open=(5, 1), paid=25)

    def test_several_backs_one_behind_the_other(self):
        book = one_work(keep=(1, 2))
        book.put_sold(5, "ode", 9, 12, "coin")
        for day in (6, 7, 8):
            book.put_back(day, "ode", 3, 5, "coin")
        self.person(book, 6, "ada", open=(6, 1), kept=(1, 1))
        self.person(book, 7, "ada", open=(2, 1))
        self.person(book, 8, "ada", open=(-3, 1))
        book.put_sold(9, "ode", 1, 8, "coin")
        self.person(book, 9, "ada", kept=(4, 1), paid=1)

    def test_a_keep_does_not_part_what_goes(self):
        book = one_work(keep=(1, 2))
        book.put_sold(5, "ode", 2, 2, "coin")
        book.put_back(15, "ode", 2, 9, "coin")
        self.person(book, 15, "ada", open=(-8, 1), paid=1)
        self.person(book, 19, "ada", open=(-8, 1), paid=1)
        book.put_sold(19, "ode", 2, 16, "coin")
        self.person(book, 19, "ada", kept=(8, 1), open=NOUGHT, paid=1)

    def test_what_was_kept_while_less_than_nought_is_open(self):
        book = one_work(keep=(1, 2))
        book.put_sold(0, "ode", 1, 2, "coin")
        book.put_back(10, "ode", 1, 6, "coin")
        book.put_sold(11, "ode", 1, 4, "coin")
        # 1 paid; 1 kept and 5 open go; then 2 are open and 2 kept; behind the next half 1 less than nothing is open.
        self.person(book, 19, "ada", open=(-3, 1), kept=(2, 1), paid=1)
        self.person(book, 29, "ada", open=(-1, 1), paid=1)

    def test_a_sale_and_a_back_of_one_day_as_they_were_told(self):
        book = one_work(keep=(1, 2))
        book.put_sold(3, "ode", 1, 10, "coin")
        book.put_back(3, "ode", 1, 10, "coin")
        book.put_sold(3, "ode", 1, 10, "coin")
        self.person(book, 3, "ada", open=(5, 1), kept=(5, 1))
        other = one_work(keep=(1, 2))
        other.put_sold(3, "ode", 1, 10, "coin")
        other.put_sold(3, "ode", 1, 10, "coin")
        other.put_back(3, "ode", 1, 10, "coin")
        self.person(other, 3, "ada", open=(10, 1))


class TestDebts(LedgerCase):
    def test_wrong_payments_ahead_of_advances(self):
        for coins, debt, worked, paid in ((3, (2, 7), 3, 0), (5, (0, 7), 5, 0), (6, (0, 6), 6, 0), (12, (0, 0), 12, 0),
                                          (13, (0, 0), 12, 1)):
            for kinds in (("wrong", "advance"), ("advance", "wrong")):
                book = one_work()
                for kind in kinds:
                    book.put_debt(kind, 3, "ada", {"wrong": 5, "advance": 7}[kind])
                book.put_sold(4, "ode", 1, coins, "coin")
                self.person(book, 4, "ada", open=(coins, 1), debt=(5, 7))
                self.person(book, 9, "ada", debt=debt, worked=worked, paid=paid)
                self.person(book, 99, "ada", debt=debt, worked=worked, paid=paid)

    def test_each_kind_alone(self):
        for kind, before, behind in (("wrong", (5, 0), (1, 0)), ("advance", (0, 5), (0, 1))):
            book = one_work()
            book.put_debt(kind, 3, "ada", 5)
            book.put_sold(4, "ode", 1, 4, "coin")
            self.person(book, 2, "ada")
            self.person(book, 3, "ada", debt=before)
            self.person(book, 9, "ada", debt=behind, worked=4)

    def test_by_whole_coins_alone(self):
        book = book_with("ada", "ode")
        book.put_half(10)
        book.put_rows("ode", (("of", "ada", (1, 2)),))
        book.put_debt("advance", 0, "ada", 3)
        book.put_sold(1, "ode", 1, 5, "coin")
        book.put_sold(11, "ode", 1, 5, "coin")
        self.person(book, 1, "ada", open=(5, 2), debt=(0, 3))
        self.person(book, 9, "ada", open=(1, 2), debt=(0, 1), worked=2)
        self.person(book, 19, "ada", worked=3, paid=2)

    def test_told_later_than_money(self):
        book = one_work()
        book.put_sold(4, "ode", 1, 6, "coin")
        book.put_sold(14, "ode", 1, 6, "coin")
        book.put_debt("wrong", 9, "ada", 2)
        book.put_debt("advance", 10, "ada", 3)
        self.person(book, 8, "ada", open=(6, 1))
        self.person(book, 9, "ada", worked=2, paid=4)
        self.person(book, 19, "ada", worked=5, paid=7)

    def test_of_a_day_behind_the_halfs_end_it_is_not_worked_off_by_then(self):
        book = one_work()
        book.put_sold(4, "ode", 1, 6, "coin")
        book.put_debt("wrong", 10, "ada", 2)
        self.person(book, 9, "ada", paid=6)
        self.person(book, 10, "ada", paid=6, debt=(2, 0))
        self.person(book, 99, "ada", paid=6, debt=(2, 0))

    def test_what_is_kept_works_nothing_off_until_it_is_open(self):
        book = one_work(keep=(1, 2))
        book.put_sold(4, "ode", 1, 8, "coin")
        book.put_debt("wrong", 0, "ada", 6)
        self.person(book, 9, "ada", kept=(4, 1), debt=(2, 0), worked=4)
        self.person(book, 19, "ada", worked=6, paid=2)

    def test_less_than_nought_open_works_nothing_off(self):
        book = one_work()
        book.put_sold(4, "ode", 1, 5, "coin")
        book.put_back(15, "ode", 1, 8, "coin")
        book.put_debt("wrong", 16, "ada", 6)
        self.person(book, 19, "ada", open=(-8, 1), paid=5, debt=(6, 0))

    def test_several_of_one_person_and_of_others(self):
        book = one_work()
        for kind, day, person, coins in (("wrong", 1, "ada", 2), ("wrong", 1, "ada", 2), ("advance", 0, "bob", 4),
                                         ("wrong", 15, "ada", 1), ("advance", 5, "ada", 1)):
            book.put_debt(kind, day, person, coins)
        book.put_sold(0, "ode", 1, 20, "coin")
        self.person(book, 5, "ada", open=(20, 1), debt=(4, 1))
        self.person(book, 9, "ada", worked=5, paid=15)
        self.person(book, 19, "ada", worked=5, paid=15, debt=(1, 0))
        self.person(book, 19, "bob", debt=(0, 4))

    def test_a_debt_is_nothing_that_came(self):
        book = one_work()
        book.put_debt("advance", 0, "ada", 10 ** 9)
        self.assertEqual((Ledger(book, 9).came_in(), Ledger(book, 9).due_of("ada")), (NOUGHT, NOUGHT))


class TestMakers(LedgerCase):
    def waiting(self):
        book = book_with("ada bob cy", "ode song")
        book.put_half(10)
        book.put_rows("ode", (("of", "bob", (1, 4)),))
        return book

    def test_what_waits_goes_to_the_maker_on_that_day(self):
        book = self.waiting()
        book.put_sold(3, "ode", 1, 12, "coin")
        book.make_known("ode", 5, "ada")
        for day, waits, coins in ((2, NOUGHT, NOUGHT), (3, (9, 1), NOUGHT), (4, (9, 1), NOUGHT), (5, NOUGHT, (9, 1))):
            self.assertEqual(Ledger(book, day).waits_of("ode"), waits)
            self.assertEqual(Ledger(book, day).due_of("ada"), coins)
        self.person(book, 5, "ada", open=(9, 1))
        self.person(book, 9, "ada", paid=9)

    def test_known_on_the_day_of_a_sale(self):
        book = self.waiting()
        book.make_known("ode", 5, "ada")
        book.put_keep("ada", (1, 2))
        book.put_sold(5, "ode", 1, 12, "coin")
        book.put_back(5, "ode", 1, 4, "coin")
        self.person(book, 5, "ada", open=(9, 2), kept=(3, 2))
        self.assertEqual(Ledger(book, 5).waits_of("ode"), NOUGHT)

    def test_known_with_nothing_waiting(self):
        book = self.waiting()
        book.make_known("ode", 5, "ada")
        book.make_known("song", 6, "ada")
        self.person(book, 9, "ada")
        book.put_sold(7, "ode", 1, 12, "coin")
        self.person(book, 9, "ada", paid=9)

    def test_known_with_less_than_nothing_waiting(self):
        book = self.waiting()
        book.put_sold(1, "ode", 1, 4, "coin")
        book.put_back(2, "ode", 1, 12, "coin")
        book.make_known("ode", 5, "ada")
        self.assertEqual(Ledger(book, 4).waits_of("ode"), (-6, 1))
        self.person(book, 5, "ada", open=(-6, 1))
        self.assertEqual(Ledger(book, 5).waits_of("ode"), NOUGHT)
        book.put_keep("ada", (1, 2))
        book.put_rows("song", (("of", "ada", (1, 1)),))
        book.put_sold(4, "song", 1, 10, "coin")
        self.person(book, 5, "ada", open=(4, 1))

    def test_it_is_handed_on_by_the_hands_of_that_day(self):
        book = self.waiting()
        book.put_sold(1, "ode", 1, 12, "coin")
        book.make_known("ode", 5, "ada")
        book.hand_on("ada", 5, "cy", (1, 3))
        book.hand_on("ada", 6, "bob", (1, 1))
        self.person(book, 5, "ada", open=(6, 1))
        self.person(book, 5, "cy", open=(3, 1))
        self.person(book, 5, "bob", open=(3, 1))

    def test_of_the_keep_a_part_is_kept(self):
        book = self.waiting()
        book.put_sold(1, "ode", 1, 12, "coin")
        book.make_known("ode", 15, "ada")
        book.put_keep("ada", (1, 3))
        self.person(book, 19, "ada", kept=(3, 1), paid=6)
        self.person(book, 28, "ada", kept=(3, 1), paid=6)
        self.person(book, 29, "ada", paid=9)

    def test_what_waits_at_another_work_by_a_ring(self):
        book = book_with("ada bob", "ode song")
        book.put_rows("ode", (("of", "song", (1, 2)),))
        book.put_rows("song", (("of", "ode", (1, 3)),))
        book.put_sold(1, "ode", 1, 10, "coin")
        book.make_known("song", 2, "bob")
        ledger = Ledger(book, 1)
        self.assertEqual((ledger.waits_of("ode"), ledger.waits_of("song")), ((6, 1), (4, 1)))
        ledger = Ledger(book, 2)
        self.assertEqual((ledger.waits_of("ode"), ledger.waits_of("song"), ledger.due_of("bob")),
                         ((6, 1), NOUGHT, (4, 1)))

    def test_makers_of_one_day_by_works_names(self):
        for first, second in (("ode", "song"), ("song", "ode")):
            book = book_with("ada", "ode song")
            book.put_half(10)
            book.put_keep("ada", (1, 2))
            book.put_sold(0, "ode", 1, 8, "coin")
            book.put_sold(0, "song", 1, 1, "coin")
            book.put_back(1, "song", 1, 7, "coin")
            book.make_known(first, 5, "ada")
            book.make_known(second, 5, "ada")
            # From ode 4 are open and 4 kept; of song's 6 less, 4 are taken from what is kept.
            self.person(book, 5, "ada", open=(2, 1))
        book = book_with("ada", "ode song")
        book.put_half(10)
        book.put_keep("ada", (1, 2))
        book.put_sold(0, "song", 1, 8, "coin")
        book.put_sold(0, "ode", 1, 1, "coin")
        book.put_back(1, "ode", 1, 7, "coin")
        book.make_known("song", 5, "ada")
        book.make_known("ode", 5, "ada")
        # From ode 6 less are open; then of song's 8 half is open, half kept.
        self.person(book, 5, "ada", open=(-2, 1), kept=(4, 1))

    def test_makers_ahead_of_money_of_a_day(self):
        book = self.waiting()
        book.put_keep("ada", (1, 2))
        book.put_rows("song", (("of", "ada", (1, 1)),))
        book.put_sold(1, "song", 2, 2, "coin")
        book.put_sold(2, "ode", 1, 16, "coin")
        book.make_known("ode", 12, "ada")
        book.put_back(12, "song", 1, 10, "coin")
        # By then 1 was paid and 1 kept; of ode's 12 come 6 open and 6 kept; from what is kept 7 of the 10 go.
        self.person(book, 12, "ada", open=(3, 1), paid=1)

    def test_debts_ahead_of_the_halfs_end_of_their_day(self):
        book = self.waiting()
        book.put_sold(2, "ode", 1, 16, "coin")
        book.make_known("ode", 9, "ada")
        book.put_debt("wrong", 9, "ada", 5)
        self.person(book, 9, "ada", worked=5, paid=7)


class TestEndless(LedgerCase):
    def ring(self):
        """From day 5 on what comes to ada or bob goes round for ever."""
        book = book_with("ada bob cy", "ode song")
        book.put_half(10)
        book.hand_on("ada", 5, "bob", (1, 1))
        book.hand_on("bob", 3, "ada", (1, 1))
        book.put_rows("ode", (("of", "ada", (1, 2)),))
        return book

    def test_of_a_row_of_money(self):
        book = self.ring()
        book.put_sold(4, "ode", 1, 8, "coin")
        book.put_sold(6, "ode", 1, 8, "coin")
        self.person(book, 4, "ada", open=(4, 1))
        self.person(book, 5, "ada", open=(4, 1))
        for day in (6, 7, 9, 10, 9999):
            self.endless(book, day, ("ada", "bob"))

    def test_of_a_maker(self):
        book = self.ring()
        book.put_sold(4, "song", 1, 8, "coin")
        book.make_known("song", 7, "bob")
        self.assertEqual(Ledger(book, 6).waits_of("song"), (8, 1))
        for day in (7, 8, 9999):
            self.endless(book, day, ("ada", "bob"))

    def test_none_of_a_maker_where_nothing_waits(self):
        book = self.ring()
        book.make_known("song", 7, "bob")
        self.assertEqual(Ledger(book, 9999).due_of("bob"), NOUGHT)
        book.put_sold(4, "song", 1, 8, "coin")
        book.put_back(5, "song", 1, 8, "coin")
        self.assertEqual(Ledger(book, 9999).due_of("bob"), NOUGHT)

    def test_of_the_first_one(self):
        book = self.ring()
        book.put_rows("song", (("of", "song", (1, 1)),))
        book.put_sold(8, "ode", 1, 8, "coin")
        book.put_sold(7, "song", 1, 8, "coin")
        self.assertEqual(Ledger(book, 6).came_in(), NOUGHT)
        self.endless(book, 7, ("song",))
        self.endless(book, 8, ("song",))
        book.put_sold(6, "ode", 1, 8, "coin")
        self.endless(book, 6, ("ada", "bob"))
        self.endless(book, 8, ("ada", "bob"))

    def test_of_one_day_makers_ahead_of_money(self):
        book = self.ring()
        book.put_sold(4, "ode", 1, 8, "coin")
        book.make_known("ode", 6, "bob")
        book.put_rows("song", (("of", "song", (1, 1)),))
        book.put_sold(6, "song", 1, 8, "coin")
        self.endless(book, 6, ("ada", "bob"))

    def test_of_one_day_makers_by_works_names(self):
        book = book_with("ada bob cy dan", "ode song")
        for person, other in (("ada", "bob"), ("bob", "ada"), ("cy", "dan"), ("dan", "cy")):
            book.hand_on(person, 5, other, (1, 1))
        for work in ("song", "ode"):
            book.put_sold(1, work, 1, 1, "coin")
        book.make_known("song", 6, "ada")
        book.make_known("ode", 6, "cy")
        self.endless(book, 6, ("cy", "dan"))

    def test_of_one_day_money_as_told(self):
        for works, names in ((("ode", "song"), ("ode",)), (("song", "ode"), ("song",))):
            book = book_with("", "ode song")
            for work in works:
                book.put_rows(work, (("of", work, (1, 1)),))
                book.put_sold(3, work, 1, 1, "coin")
            self.endless(book, 3, names)

    def test_names_of_what_the_row_comes_to_alone(self):
        book = self.ring()
        book.put_rows("song", (("of", "song", (1, 1)),))
        book.put_sold(6, "ode", 1, 8, "coin")
        self.endless(book, 9, ("ada", "bob"))


class TestLater(LedgerCase):
    def told_book(self):
        book = book_with("ada bob", "ode song")
        book.put_half(10)
        book.put_rows("ode", (("of", "ada", (1, 2)),))
        book.put_keep("ada", (1, 2))
        book.put_sold(1, "ode", 2, 20, "coin")
        book.put_debt("wrong", 2, "ada", 2)
        return book

    def test_later_deeds_are_no_matter_to_it(self):
        book = self.told_book()
        ledger = Ledger(book, 9)
        wanted = told_by(ledger, ["ada", "bob"], ["ode", "song"])
        self.assertEqual(wanted, {
            "open_of": {"ada": NOUGHT, "bob": NOUGHT}, "kept_of": {"ada": (5, 1), "bob": NOUGHT},
            "debt_of": {"ada": (0, 0), "bob": (0, 0)}, "worked_of": {"ada": 2, "bob": 0},
            "paid_of": {"ada": 3, "bob": 0}, "due_of": {"ada": (10, 1), "bob": NOUGHT},
            "waits_of": {"ode": (10, 1), "song": NOUGHT}, "came_in": (20, 1)})
        book.add_person("eve")
        book.add_work("poem")
        book.put_rows("ode", (("of", "bob", (1, 1)),))
        book.hand_on("ada", 0, "bob", (1, 1))
        book.make_known("ode", 0, "bob")
        book.put_rate("eur", 0, (7, 1))
        book.put_keep("ada", (1, 1))
        book.put_half(3)
        book.put_sold(0, "ode", 7, 7, "eur")
        book.put_back(1, "ode", 7, 7, "coin")
        book.put_debt("wrong", 0, "ada", 7)
        self.assertEqual(told_by(ledger, ["ada", "bob"], ["ode", "song"]), wanted)
        other = told_by(Ledger(book, 9), ["ada", "bob"], ["ode", "song"])
        self.assertEqual([ask for ask in wanted if other[ask] == wanted[ask]], ["open_of"])

    def test_two_ledgers_of_one_book(self):
        book = self.told_book()
        early, late, same = Ledger(book, 1), Ledger(book, 19), Ledger(book, 1)
        for ledger in (early, same):
            self.assertEqual((ledger.open_of("ada"), ledger.kept_of("ada"), ledger.paid_of("ada")), ((5, 1), (5, 1), 0))
        self.assertEqual((late.open_of("ada"), late.kept_of("ada"), late.paid_of("ada")), (NOUGHT, NOUGHT, 8))
        self.assertEqual((early.debt_of("ada"), late.debt_of("ada")), ((0, 0), (0, 0)))
        self.assertEqual((early.worked_of("ada"), late.worked_of("ada")), (0, 2))

    def test_the_book_stays_as_it_was(self):
        book = self.told_book()
        twin = book.twin_book()
        Ledger(book, 99)
        credit_list(book, 0)
        self.refused(NoName, book, "rows_of", "eve")
        self.assertEqual(told_by(Ledger(book, 9), ["ada"], ["ode"]), told_by(Ledger(twin, 9), ["ada"], ["ode"]))


class TestAll(LedgerCase):
    def test_against_going_day_by_day(self):
        draw, went, ends = random.Random(61), 0, 0
        for turn in range(90):
            book = drawn_book(draw)
            for day in (draw.randint(0, 40), 75):
                try:
                    wanted = WantedLedger(book, day).told()
                except WantedEndless as refusal:
                    ends += 1
                    self.endless(book, day, refusal.names)
                else:
                    went += 1
                    ledger = Ledger(book, day)
                    self.assertEqual(told_by(ledger, PEOPLE, WORKS), wanted)
                    self.sums_to_what_came_in(book, ledger)
        self.assertGreater(went, 100)
        self.assertGreater(ends, 5)

    def test_at_the_bounds(self):
        draw = random.Random(67)
        people, works = [f"p{sign}" for sign in "abcdefghijkl"], [f"w{sign}" for sign in "abcdefghijkl"]
        book = book_with(" ".join(people), " ".join(works))
        for at, work in enumerate(works):
            book.put_rows(work, tuple(("of", draw.choice(people + works), (1, 9 + draw.randint(0, 51)))
                                      for row in range(7)) + (("left", works[at - 1], (1, 61 - at - 2)),))
            if at % 2:
                book.make_known(work, at * 800, people[at])
        for at in range(30):
            book.hand_on(people[at % 12], at * 300, people[(at + 1 + at // 12) % 12], (1, 60 - at))
        for at in range(40):
            book.put_sold(at * 250, works[at % 12], 10 ** 6, 10 ** 9, "coin")
        ledger = Ledger(book, 9999)
        self.assertEqual(ledger.came_in(), (40 * 10 ** 9, 1))
        self.sums_to_what_came_in(book, ledger)


if __name__ == "__main__":
    unittest.main()
