"""Promise 15: a book without a work, and what is otherwise without it."""

import random
import unittest
from fractions import Fraction

from reckoning import (WORKS, BookCase, WantedEndless, WantedLedger, book_with, drawn_book, drawn_ending_book, pair,
                       told_of)
from royaltree.books import Book
from royaltree.errors import Endless, NoName, RoyalError
from royaltree.ledger import Ledger
from royaltree.strikes import strike_list, struck_book

NOUGHT = (0, 1)


def full_book():
    """A book with some of everything, in which song is named by others and by itself."""
    book = book_with("ada bob cy", "ode song tune")
    book.put_half(10)
    book.put_rows("ode", (("of", "ada", (1, 4)), ("steps", "song", ((5, (1, 4)), (None, (1, 5)))),
                          ("left", "bob", (1, 2)), ("of", "song", (1, 6)), ("length", "cy", 3), ("length", "song", 4),
                          ("left", "song", (1, 3)), ("left", "ada", (1, 7))))
    book.put_rows("song", (("of", "ode", (1, 2)), ("of", "song", (1, 4)), ("left", "cy", (1, 3))))
    book.put_rows("tune", (("length", "song", 7),))
    book.hand_on("ada", 4, "bob", (1, 2))
    book.hand_on("cy", 2, "ada", (1, 5))
    book.make_known("song", 14, "bob")
    book.make_known("tune", 3, "cy")
    book.put_rate("eur", 0, (2, 3))
    book.put_keep("ada", (1, 3))
    book.put_sold(4, "song", 9, 100, "eur")
    book.put_sold(4, "ode", 9, 60, "coin")
    book.put_sold(2, "tune", 3, 21, "coin")
    book.put_back(6, "song", 6, 30, "coin")
    book.put_back(6, "ode", 2, 7, "coin")
    book.put_debt("wrong", 4, "ada", 5)
    book.put_debt("advance", 3, "bob", 5)
    return book


def told_without(told, work):
    """What a book tells, as told_of has it, as if the work had not been."""
    at = told["works"].index(work)
    rows = [tuple(row for row in of_work if row[1] != work) for of_work in told["rows"]]
    return {**told, "works": told["works"][:at] + told["works"][at + 1:], "rows": rows[:at] + rows[at + 1:],
            "known": told["known"][:at] + told["known"][at + 1:],
            "money": [row for row in told["money"] if row[2] != work]}


class StrikeCase(BookCase):
    def no_name(self, ask, *told):
        with self.subTest(ask=ask, told=told):
            with self.assertRaises(RoyalError) as caught:
                ask(*told)
            self.assertIs(type(caught.exception), NoName)

    def endless(self, book, work, day, names):
        with self.subTest(work=work, day=day):
            with self.assertRaises(RoyalError) as caught:
                strike_list(book, work, day)
            self.assertIs(type(caught.exception), Endless)
            self.assertEqual(caught.exception.names, names)

    def struck(self, book, work, day, *rows):
        with self.subTest(work=work, day=day):
            before = told_of(book)
            told = strike_list(book, work, day)
            self.assertEqual(told, list(rows))
            self.assertEqual([type(told)] + [type(row) for row in told], [list] + [tuple] * len(told))
            self.assertEqual(told_of(book), before)
            self.sums_to_what_came_in_for_it(book, work, day)

    def sums_to_what_came_in_for_it(self, book, work, day):
        together = Fraction(*Ledger(book, day).waits_of(work))
        for name, given, without in strike_list(book, work, day):
            together += Fraction(*given) - Fraction(*without)
        came = Fraction(0)
        for kind, money_day, other, count, amount, currency in book.money_list():
            if other == work and money_day <= day:
                came += Fraction(*book.worth_of(currency, money_day)) * (amount if kind == "sold" else -amount)
        self.assertEqual(together, came)


class TestStruckBook(StrikeCase):
    def test_all_of_the_work_is_gone_and_all_else_as_it_is(self):
        for work in WORKS:
            book = full_book()
            struck = struck_book(book, work)
            self.assertIs(type(struck), Book)
            self.assertEqual(told_of(struck), told_without(told_of(full_book()), work))
            self.assertEqual(told_of(book), told_of(full_book()))

    def test_rows_that_name_it_are_gone_and_others_stand_in_their_order(self):
        struck = struck_book(full_book(), "song")
        self.assertEqual(struck.rows_of("ode"), (("of", "ada", (1, 4)), ("left", "bob", (1, 2)), ("length", "cy", 3),
                                                 ("left", "ada", (1, 7))))
        self.assertEqual(struck.rows_of("tune"), ())
        self.assertIs(type(struck.rows_of("ode")), tuple)
        self.assertEqual(struck.money_list(), [("sold", 2, "tune", 3, 21, "coin"), ("sold", 4, "ode", 9, 60, "coin"),
                                               ("back", 6, "ode", 2, 7, "coin")])
        self.assertEqual(struck.known_of("tune"), (3, "cy"))
        for ask in ("rows_of", "known_of"):
            self.refused(NoName, struck, ask, "song")
        self.assertEqual((struck.hands_of("ada"), struck.keep_of("ada")), ([(4, "bob", (1, 2))], (1, 3)))
        self.assertEqual((struck.rate_list(), struck.half_days()), ([("eur", 0, (2, 3))], 10))
        self.assertEqual(struck.debt_list(), [("advance", 3, "bob", 5), ("wrong", 4, "ada", 5)])

    def test_of_one_day_money_stands_as_told(self):
        book = book_with("", "ode song tune")
        for work in ("tune", "song", "ode", "song", "tune", "ode"):
            book.put_sold(5, work, 1, len(book.money_list()) + 1, "coin")
        self.assertEqual([row[2:5] for row in struck_book(book, "song").money_list()],
                         [("tune", 1, 1), ("ode", 1, 3), ("tune", 1, 5), ("ode", 1, 6)])

    def test_a_work_of_which_nothing_was_told(self):
        book = book_with("ada", "ode song")
        self.assertEqual(told_of(struck_book(book, "song")), told_of(book_with("ada", "ode")))
        self.assertEqual(told_of(struck_book(struck_book(book, "song"), "ode")), told_of(book_with("ada")))

    def test_a_book_of_its_own(self):
        book = full_book()
        struck = struck_book(book, "song")
        before = told_of(struck)
        self.change(book)
        self.assertEqual(told_of(struck), before)
        book = full_book()
        struck = struck_book(book, "song")
        self.change(struck)
        self.assertEqual(told_of(book), told_of(full_book()))
        book, struck = full_book(), struck_book(full_book(), "song")
        for told in (struck.money_list(), struck.debt_list(), struck.rate_list(), struck.hands_of("ada")):
            told.clear()
        self.assertEqual(told_of(struck), before)

    def change(self, book):
        book.add_person("eve")
        book.add_work("poem")
        book.put_rows("ode", (("of", "poem", (1, 7)),))
        book.hand_on("ada", 1, "eve", (1, 7))
        book.make_known("ode", 0, "eve")
        book.put_rate("eur", 4, (7, 1))
        book.put_keep("ada", (1, 7))
        book.put_half(7)
        book.put_sold(0, "ode", 7, 7, "coin")
        book.put_back(1, "ode", 1, 1, "coin")
        book.put_debt("wrong", 0, "ada", 7)

    def test_the_works_name_is_free_again(self):
        for add in ("add_work", "add_person"):
            struck = struck_book(full_book(), "song")
            getattr(struck, add)("song")
            self.assertIn("song", struck.work_names() if add == "add_work" else struck.person_names())
        struck = struck_book(full_book(), "song")
        struck.add_work("song")
        self.assertEqual((struck.rows_of("song"), struck.known_of("song")), ((), None))
        struck.make_known("song", 3, "ada")
        struck.put_rows("song", (("of", "ada", (1, 1)),))
        # None of it was sold in the book that has it no longer.
        with self.assertRaises(RoyalError):
            struck.put_back(9, "song", 1, 1, "coin")

    def test_more_of_a_works_rows_fit_where_some_went(self):
        struck = struck_book(full_book(), "song")
        rows = struck.rows_of("ode") + (("of", "tune", (3, 4)),)
        struck.put_rows("ode", rows)
        self.assertEqual(struck.rows_of("ode"), rows)

    def test_no_name(self):
        book = full_book()
        for name in ("ada", "bob", "eve", "", "Song", "son", "song ", "coin", "eur"):
            self.no_name(struck_book, book, name)
            for day in (0, 5, 9999):
                self.no_name(strike_list, book, name, day)
        self.no_name(struck_book, Book(), "ode")
        self.no_name(struck_book, struck_book(book, "song"), "song")
        self.assertEqual(told_of(book), told_of(full_book()))


class TestStrikeList(StrikeCase):
    def plain(self):
        """Of song a half is ada's, a quarter ode's; ode gives a third to bob."""
        book = book_with("ada bob cy", "ode song tune")
        book.put_half(10)
        book.put_rows("song", (("of", "ada", (1, 2)), ("of", "ode", (1, 4))))
        book.put_rows("ode", (("of", "bob", (1, 3)),))
        return book

    def test_days_ahead_of_and_behind_the_works_money(self):
        book = self.plain()
        book.put_sold(5, "song", 1, 24, "coin")
        book.put_sold(3, "ode", 1, 9, "coin")
        for day in (0, 3, 4):
            self.struck(book, "song", day)
        for day in (5, 9, 10, 500, 9999):
            self.struck(book, "song", day, ("ada", (12, 1), NOUGHT), ("bob", (5, 1), (3, 1)),
                        ("ode", (10, 1), (6, 1)))

    def test_day_nought(self):
        book = self.plain()
        book.put_sold(0, "song", 1, 24, "coin")
        self.struck(book, "song", 0, ("ada", (12, 1), NOUGHT), ("bob", (2, 1), NOUGHT), ("ode", (4, 1), NOUGHT))
        self.struck(book, "tune", 0)

    def test_just_those_of_whom_it_is_unlike(self):
        book = self.plain()
        book.put_sold(5, "song", 2, 24, "coin")
        book.put_sold(5, "tune", 1, 8, "coin")
        self.struck(book, "tune", 9)
        book.put_back(6, "song", 1, 24, "coin")
        # All that came for it went back: nothing is otherwise.
        self.struck(book, "song", 9)
        book.put_back(7, "song", 1, 24, "coin")
        self.struck(book, "song", 9, ("ada", (-12, 1), NOUGHT), ("bob", (-2, 1), NOUGHT), ("ode", (-4, 1), NOUGHT))

    def test_names_rise_people_and_works_among_one_another(self):
        book = book_with("b d f", "a c e g")
        names = ("f", "e", "d", "c", "b", "a")
        book.put_rows("g", tuple(("of", name, (1, 12)) for name in names))
        book.put_sold(1, "g", 1, 12, "coin")
        self.struck(book, "g", 1, *[(name, (1, 1), NOUGHT) for name in sorted(names)])

    def test_what_was_kept_worked_off_and_paid_counts(self):
        book = self.plain()
        book.put_keep("ada", (1, 3))
        book.put_debt("wrong", 0, "ada", 5)
        book.put_sold(5, "song", 1, 24, "coin")
        for day in (5, 9, 15, 19, 99):
            self.struck(book, "song", day, ("ada", (12, 1), NOUGHT), ("bob", (2, 1), NOUGHT), ("ode", (4, 1), NOUGHT))

    def test_a_work_that_is_named_by_others(self):
        book = self.plain()
        book.put_sold(5, "song", 1, 24, "coin")
        book.put_sold(6, "ode", 1, 3, "coin")
        # Without ode its quarter of song waits there; song itself is no other work of its own.
        self.struck(book, "ode", 5, ("bob", (2, 1), NOUGHT), ("song", (6, 1), (12, 1)))
        self.struck(book, "ode", 6, ("bob", (3, 1), NOUGHT), ("song", (6, 1), (12, 1)))

    def test_rows_that_name_it_leave_more_to_others(self):
        book = book_with("ada bob", "ode song")
        book.put_rows("ode", (("of", "song", (1, 2)), ("left", "ada", (1, 2)), ("length", "bob", 1),
                              ("length", "song", 3)))
        book.put_sold(5, "ode", 1, 16, "coin")
        self.struck(book, "song", 5, ("ada", (4, 1), (8, 1)), ("bob", (1, 1), (8, 1)))

    def test_a_work_that_names_itself(self):
        book = book_with("ada", "ode song")
        book.put_rows("ode", (("of", "ode", (1, 2)), ("of", "ada", (1, 3))))
        book.put_rows("song", (("of", "ode", (1, 1)),))
        book.put_sold(1, "ode", 1, 6, "coin")
        book.put_sold(2, "song", 1, 6, "coin")
        self.struck(book, "ode", 1, ("ada", (4, 1), NOUGHT))
        self.struck(book, "ode", 2, ("ada", (8, 1), NOUGHT), ("song", NOUGHT, (6, 1)))
        self.struck(book, "song", 2, ("ada", (8, 1), (4, 1)), ("ode", (4, 1), (2, 1)))

    def test_a_work_in_a_ring(self):
        book = book_with("ada", "ode song tune")
        for work, other in (("ode", "song"), ("song", "tune"), ("tune", "ode")):
            book.put_rows(work, (("of", other, (1, 2)), ("of", "ada", (1, 4))))
        book.put_sold(1, "ode", 1, 7, "coin")
        # Of a coin for ode 8/7 flow by it, 4/7 by song and 2/7 by tune.
        self.struck(book, "song", 1, ("ada", (7, 2), (7, 4)), ("ode", (2, 1), (21, 4)), ("tune", (1, 2), NOUGHT))
        self.struck(book, "tune", 1, ("ada", (7, 2), (21, 8)), ("ode", (2, 1), (7, 4)), ("song", (1, 1), (21, 8)))
        self.struck(book, "ode", 1, ("ada", (7, 2), NOUGHT), ("song", (1, 1), NOUGHT), ("tune", (1, 2), NOUGHT))

    def test_a_work_with_a_maker(self):
        book = self.plain()
        book.make_known("song", 7, "cy")
        book.put_sold(5, "song", 1, 24, "coin")
        rows = [("ada", (12, 1), NOUGHT), ("bob", (2, 1), NOUGHT), ("ode", (4, 1), NOUGHT)]
        self.struck(book, "song", 6, *rows)
        self.struck(book, "song", 7, rows[0], rows[1], ("cy", (6, 1), NOUGHT), rows[2])
        book.put_sold(8, "song", 1, 24, "coin")
        self.struck(book, "song", 8, ("ada", (24, 1), NOUGHT), ("bob", (4, 1), NOUGHT), ("cy", (12, 1), NOUGHT),
                    ("ode", (8, 1), NOUGHT))

    def test_what_waits_at_the_work_by_others_money(self):
        book = book_with("ada", "ode song")
        book.put_rows("ode", (("of", "song", (1, 3)), ("of", "ada", (1, 3))))
        book.put_sold(1, "ode", 1, 9, "coin")
        self.struck(book, "song", 1, ("ode", (3, 1), (6, 1)))
        book.make_known("ode", 2, "ada")
        self.struck(book, "song", 2, ("ada", (6, 1), (9, 1)))


class TestEndless(StrikeCase):
    def test_of_the_book(self):
        book = book_with("ada bob", "ode song")
        book.put_rows("ode", (("of", "ode", (1, 1)),))
        book.put_sold(4, "ode", 1, 1, "coin")
        self.struck(book, "ode", 3)
        for day in (4, 5, 9999):
            self.endless(book, "ode", day, ("ode",))
            self.endless(book, "song", day, ("ode",))
        self.assertEqual(struck_book(book, "ode").work_names(), ["song"])

    def test_of_the_struck_one(self):
        book = book_with("ada", "ode song tune")
        book.put_rows("ode", (("left", "song", (1, 2)), ("left", "tune", (1, 1))))
        book.put_rows("tune", (("of", "ode", (1, 1)),))
        book.put_rows("song", (("of", "ada", (1, 2)),))
        book.put_sold(4, "ode", 1, 8, "coin")
        self.struck(book, "song", 3)
        self.endless(book, "song", 4, ("ode", "tune"))
        self.struck(book, "tune", 4, ("ada", (4, 1), (2, 1)), ("ode", NOUGHT, (4, 1)), ("song", (4, 1), (2, 1)))

    def test_of_the_book_ahead_of_the_struck_ones(self):
        book = book_with("ada bob", "ode poem song tune")
        # Without song ode and tune are a ring of their own, of money that comes first.
        book.put_rows("ode", (("left", "song", (1, 2)), ("left", "tune", (1, 1))))
        book.put_rows("tune", (("of", "ode", (1, 1)),))
        book.put_sold(2, "ode", 1, 8, "coin")
        book.put_rows("poem", (("of", "poem", (1, 1)),))
        book.put_sold(4, "poem", 1, 8, "coin")
        self.endless(book, "song", 3, ("ode", "tune"))
        self.endless(book, "song", 4, ("poem",))

    def test_no_name_goes_ahead_of_endless(self):
        book = book_with("ada", "ode")
        book.put_rows("ode", (("of", "ode", (1, 1)),))
        book.put_sold(0, "ode", 1, 1, "coin")
        for name in ("ada", "song", ""):
            self.no_name(strike_list, book, name, 0)
            self.no_name(struck_book, book, name)


class TestAll(StrikeCase):
    def wanted(self, book, work, day):
        with_it = WantedLedger(book, day).told()
        without = WantedLedger(self.built_without(book, work), day).told()
        given = {**with_it["due_of"], **with_it["waits_of"]}
        others = {**without["due_of"], **without["waits_of"]}
        return [(name, given[name], others[name]) for name in sorted(others) if given[name] != others[name]]

    def built_without(self, book, work):
        """A book that was told all anew, but nothing of the work."""
        other = book_with(" ".join(book.person_names()), " ".join(set(book.work_names()) - {work}))
        other.put_half(book.half_days())
        for person in book.person_names():
            other.put_keep(person, book.keep_of(person))
            for hand in book.hands_of(person):
                other.hand_on(person, *hand)
        for rate in book.rate_list():
            other.put_rate(*rate)
        for name in other.work_names():
            other.put_rows(name, tuple(row for row in book.rows_of(name) if row[1] != work))
            if book.known_of(name):
                other.make_known(name, *book.known_of(name))
        for kind, *row in book.money_list():
            if row[1] != work:
                (other.put_sold if kind == "sold" else other.put_back)(*row)
        for debt in book.debt_list():
            other.put_debt(*debt)
        return other

    def test_against_books_told_without_it(self):
        draw, went, ends = random.Random(91), 0, 0
        for turn in range(40):
            book = drawn_book(draw, whole_parts=0.1 if turn % 2 else 0.3)
            for work in WORKS:
                day = draw.randint(0, 60)
                self.assertEqual(told_of(struck_book(book, work)), told_of(self.built_without(book, work)))
                try:
                    wanted = self.wanted(book, work, day)
                except WantedEndless as refusal:
                    ends += 1
                    self.endless(book, work, day, refusal.names)
                else:
                    went += len(wanted)
                    self.struck(book, work, day, *wanted)
        self.assertGreater(went, 100)
        self.assertGreater(ends, 10)

    def test_differences_of_ending_books(self):
        draw = random.Random(92)
        for turn in range(15):
            book = drawn_ending_book(draw)
            for work in WORKS:
                try:
                    self.sums_to_what_came_in_for_it(book, work, 60)
                except Endless:
                    continue
                self.assertEqual(strike_list(book.twin_book(), work, 60), strike_list(book, work, 60))

    def test_large_numbers(self):
        book = book_with("ada", "ode song")
        book.put_rate("eur", 0, (999, 1000))
        book.put_rows("ode", (("of", "song", (59, 60)), ("of", "ada", (1, 60))))
        book.put_rows("song", (("of", "ode", (58, 59)), ("of", "ada", (1, 59))))
        for turn in range(3):
            book.put_sold(turn, "ode", 10 ** 6, 10 ** 9, "eur")
        coins = 3 * Fraction(999, 1000) * 10 ** 9
        self.struck(book, "song", 9999, ("ada", pair(coins), pair(coins / 60)), ("ode", NOUGHT, pair(coins * 59 / 60)))


if __name__ == "__main__":
    unittest.main()
