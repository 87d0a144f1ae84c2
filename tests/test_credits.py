"""Promise 11: what people have more, and what waits more, by a row of money."""

import random
import unittest

from reckoning import BookCase, WantedEndless, book_with, drawn_book, pair, wanted_credits
from royaltree.errors import Endless, RoyalError
from royaltree.ledger import credit_list

STEPS = ("steps", "bob", ((10, (1, 10)), (20, (1, 5)), (None, (1, 2))))


class CreditCase(BookCase):
    def told(self, book, number, wanted):
        with self.subTest(number=number):
            told = credit_list(book, number)
            self.assertIs(type(told), list)
            self.assertEqual({type(one) for one in told}, {tuple})
            self.assertEqual(told, wanted)

    def endless(self, book, number, names):
        with self.subTest(number=number):
            with self.assertRaises(RoyalError) as caught:
                credit_list(book, number)
            self.assertIs(type(caught.exception), Endless)
            self.assertEqual(caught.exception.names, names)


class TestSold(CreditCase):
    def test_within_one_stretch(self):
        book = book_with("ada bob", "ode")
        book.put_rows("ode", (("of", "ada", (1, 3)), STEPS))
        book.put_sold(5, "ode", 10, 100, "coin")
        self.told(book, 0, [("ada", (100, 3)), ("bob", (10, 1)), ("ode", (170, 3))])

    def test_of_a_work_without_rows_all_waits(self):
        book = book_with("", "ode")
        book.put_sold(0, "ode", 1, 1, "coin")
        self.told(book, 0, [("ode", (1, 1))])

    def test_over_several_uptos(self):
        book = book_with("bob", "ode")
        book.put_rows("ode", (STEPS,))
        book.put_sold(5, "ode", 25, 100, "coin")
        # 40 coins at a tenth, 40 at a fifth, 20 at a half.
        self.told(book, 0, [("bob", (22, 1)), ("ode", (78, 1))])

    def test_sales_one_behind_the_other(self):
        book = book_with("bob", "ode")
        book.put_rows("ode", (STEPS,))
        book.put_sold(7, "ode", 6, 60, "coin")
        book.put_sold(5, "ode", 8, 80, "coin")
        book.put_sold(7, "ode", 6, 7, "coin")
        book.put_sold(8, "ode", 1, 7, "coin")
        self.told(book, 0, [("bob", (8, 1)), ("ode", (72, 1))])
        self.told(book, 1, [("bob", (10, 1)), ("ode", (50, 1))])
        self.told(book, 2, [("bob", (7, 5)), ("ode", (28, 5))])
        self.told(book, 3, [("bob", (7, 2)), ("ode", (7, 2))])

    def test_exactly_up_to_an_upto_and_from_it_on(self):
        book = book_with("bob", "ode")
        book.put_rows("ode", (STEPS,))
        for day, count in ((0, 9), (1, 1), (2, 1), (3, 9), (4, 1)):
            book.put_sold(day, "ode", count, 10, "coin")
        for number, coins in ((0, (1, 1)), (1, (1, 1)), (2, (2, 1)), (3, (2, 1)), (4, (5, 1))):
            self.assertEqual(credit_list(book, number)[0], ("bob", coins))

    def test_another_currency_whose_worth_changes(self):
        book = book_with("ada", "ode")
        book.put_rows("ode", (("of", "ada", (1, 2)),))
        book.put_rate("eur", 5, (3, 7))
        book.put_rate("eur", 6, (1000, 1))
        for day in (5, 6, 7):
            book.put_sold(day, "ode", 3, 10, "eur")
        self.told(book, 0, [("ada", (15, 7)), ("ode", (15, 7))])
        self.told(book, 1, [("ada", (5000, 1)), ("ode", (5000, 1))])
        book.put_rate("eur", 7, (1, 10))
        self.told(book, 2, [("ada", (1, 2)), ("ode", (1, 2))])

    def test_hands_and_makers_that_change_by_days(self):
        book = book_with("ada bob", "ode")
        book.put_rows("ode", (("of", "ada", (1, 2)),))
        book.hand_on("ada", 6, "bob", (1, 4))
        book.make_known("ode", 7, "ada")
        for day in (5, 6, 7):
            book.put_sold(day, "ode", 3, 8, "coin")
        self.told(book, 0, [("ada", (4, 1)), ("ode", (4, 1))])
        self.told(book, 1, [("ada", (3, 1)), ("bob", (1, 1)), ("ode", (4, 1))])
        self.told(book, 2, [("ada", (6, 1)), ("bob", (2, 1))])

    def test_counts_of_other_works_as_they_stand_ahead_of_the_row(self):
        book = book_with("ada bob", "ode song")
        book.put_rows("ode", (("of", "song", (1, 1)),))
        book.put_rows("song", (STEPS, ("of", "ode", (1, 2))))
        book.put_sold(1, "ode", 50, 10, "coin")
        book.put_sold(1, "song", 15, 1, "coin")
        book.put_sold(1, "ode", 50, 10, "coin")
        book.put_back(2, "song", 6, 1, "coin")
        book.put_sold(2, "ode", 50, 10, "coin")
        # What comes to ode goes to song, and half of that back: so song has twice the coins.
        self.told(book, 0, [("bob", (2, 1)), ("song", (8, 1))])
        self.told(book, 2, [("bob", (4, 1)), ("song", (6, 1))])
        self.told(book, 4, [("bob", (2, 1)), ("song", (8, 1))])

    def test_the_works_own_count_within_a_ring_is_the_stretchs_first_unit(self):
        book = book_with("bob", "ode")
        book.put_rows("ode", (STEPS, ("of", "ode", (1, 2))))
        book.put_sold(1, "ode", 30, 300, "coin")
        # Of each stretch's hundred coins two hundred come by: a tenth, a fifth and a half of those go to bob.
        self.told(book, 0, [("bob", (160, 1)), ("ode", (140, 1))])

    def test_the_greatest_of_all(self):
        book = book_with("ada", "ode")
        book.put_rows("ode", (("of", "ada", (59, 60)),))
        book.put_rate("eur", 9999, (1000, 1))
        book.put_sold(9999, "ode", 10 ** 6, 10 ** 9, "eur")
        self.told(book, 0, [("ada", (295 * 10 ** 10, 3)), ("ode", (5 * 10 ** 10, 3))])


class TestBack(CreditCase):
    def test_of_units_of_several_stretches(self):
        book = book_with("bob", "ode")
        book.put_rows("ode", (STEPS,))
        book.put_sold(5, "ode", 25, 100, "coin")
        book.put_back(6, "ode", 20, 100, "coin")
        book.put_back(6, "ode", 3, 30, "coin")
        # Units 5 to 9 have 25 coins at a tenth, 10 to 19 fifty at a fifth, 20 to 24 twenty-five at a half.
        self.told(book, 1, [("bob", (-25, 1)), ("ode", (-75, 1))])
        self.told(book, 2, [("bob", (-3, 1)), ("ode", (-27, 1))])

    def test_a_back_of_all(self):
        book = book_with("bob", "ode")
        book.put_rows("ode", (STEPS,))
        book.put_sold(5, "ode", 25, 100, "coin")
        book.put_back(5, "ode", 25, 100, "coin")
        book.put_sold(5, "ode", 5, 10, "coin")
        self.told(book, 1, [("bob", (-22, 1)), ("ode", (-78, 1))])
        self.told(book, 2, [("bob", (1, 1)), ("ode", (9, 1))])

    def test_by_the_rows_as_they_are_and_the_worth_and_hands_of_that_day(self):
        book = book_with("ada bob cy", "ode")
        book.put_rows("ode", (("of", "ada", (1, 2)),))
        book.put_rate("eur", 0, (2, 1))
        book.put_sold(5, "ode", 4, 10, "eur")
        book.put_back(8, "ode", 4, 10, "eur")
        book.put_rate("eur", 7, (3, 1))
        book.hand_on("ada", 8, "cy", (1, 5))
        self.told(book, 0, [("ada", (10, 1)), ("ode", (10, 1))])
        self.told(book, 1, [("ada", (-12, 1)), ("cy", (-3, 1)), ("ode", (-15, 1))])
        book.put_rows("ode", (("of", "bob", (1, 1)),))
        self.told(book, 0, [("bob", (20, 1))])
        self.told(book, 1, [("bob", (-30, 1))])

    def test_counts_of_other_works_as_they_stand_ahead_of_the_row(self):
        book = book_with("bob", "ode song")
        book.put_rows("ode", (("of", "song", (1, 1)),))
        book.put_rows("song", (STEPS,))
        book.put_sold(0, "ode", 5, 10, "coin")
        book.put_sold(1, "song", 10, 1, "coin")
        book.put_back(2, "ode", 5, 10, "coin")
        self.told(book, 0, [("bob", (1, 1)), ("song", (9, 1))])
        self.told(book, 2, [("bob", (-2, 1)), ("song", (-8, 1))])


class TestEndless(CreditCase):
    def test_of_a_ring_come_to_from_some_unit_on(self):
        book = book_with("ada", "ode song")
        book.put_rows("song", (("of", "song", (1, 1)),))
        book.put_rows("ode", (("steps", "ada", ((10, (1, 1)), (None, (1, 60)))), ("left", "song", (1, 1))))
        for day, count in ((0, 1), (1, 9), (2, 1)):
            book.put_sold(day, "ode", count, 1, "coin")
        self.told(book, 0, [("ada", (1, 1))])
        self.told(book, 1, [("ada", (1, 1))])
        self.endless(book, 2, ("song",))

    def test_of_two_stretches_with_names_of_their_own(self):
        book = book_with("", "ode song")
        whole = (1, 1)
        book.put_rows("song", (("of", "song", whole),))
        book.put_rows("ode", (("steps", "ode", ((10, (1, 2)), (20, whole), (None, (1, 2)))), ("left", "song", whole)))
        book.put_sold(0, "ode", 10, 1, "coin")
        book.put_sold(1, "ode", 10, 1, "coin")
        book.put_sold(2, "ode", 5, 1, "coin")
        self.endless(book, 0, ("ode", "song"))
        self.endless(book, 1, ("ode",))
        self.endless(book, 2, ("ode", "song"))
        book.put_back(3, "ode", 15, 1, "coin")
        self.endless(book, 3, ("ode",))
        book.put_back(3, "ode", 5, 1, "coin")
        self.endless(book, 4, ("ode", "song"))

    def test_a_later_stretch_alone(self):
        book = book_with("ada", "ode")
        book.put_rows("ode", (("steps", "ode", ((10, (1, 2)), (20, (1, 1)), (None, (1, 2)))), ("left", "ada", (1, 1))))
        book.put_sold(0, "ode", 10, 7, "coin")
        book.put_sold(1, "ode", 5, 7, "coin")
        book.put_back(2, "ode", 5, 7, "coin")
        book.put_back(3, "ode", 5, 7, "coin")
        book.put_sold(4, "ode", 6, 7, "coin")
        self.told(book, 0, [("ada", (7, 1))])
        self.endless(book, 1, ("ode",))
        self.endless(book, 2, ("ode",))
        self.told(book, 3, [("ada", (-7, 1))])
        self.endless(book, 4, ("ode",))


class TestAll(CreditCase):
    def test_against_going_unit_by_unit(self):
        draw, told, ends = random.Random(59), 0, 0
        for turn in range(80):
            book = drawn_book(draw)
            for number in range(len(book.money_list())):
                try:
                    wanted = wanted_credits(book, number)
                except WantedEndless as refusal:
                    ends += 1
                    self.endless(book, number, refusal.names)
                else:
                    told += 1
                    self.told(book, number, [(name, pair(wanted[name])) for name in sorted(wanted) if wanted[name]])
        self.assertGreater(told, 300)
        self.assertGreater(ends, 20)


if __name__ == "__main__":
    unittest.main()
