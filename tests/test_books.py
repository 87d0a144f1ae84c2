"""Promises 6 and 7: people, works, rows, hands, makers, rates, keeps and halves."""

import itertools
import unittest

from reckoning import BookCase, book_with, told_of
from royaltree.books import Book
from royaltree.errors import NoName, NoRate, Taken, TooMuch

NO_NAMES = ("eve", "", " ", "ADA", "Ada", "ada ", "a b", "adaadaadaada", "0", "~", "ad", "adaa", "coin")


class TestNames(BookCase):
    def test_a_new_book_has_nothing(self):
        self.assertEqual(told_of(Book()), {
            "people": [], "works": [], "half": 182, "rates": [], "money": [], "debts": [], "rows": [], "known": [],
            "hands": [], "keeps": []})

    def test_names_rise_in_whatever_order_they_are_told(self):
        names = ["zed", "a", "bob", "ab", "aaaaaaaa", "b", "abc", "zz"]
        book = Book()
        for name in names:
            book.add_person(name)
            book.add_work("w" + name[:7])
        self.assertEqual(book.person_names(), ["a", "aaaaaaaa", "ab", "abc", "b", "bob", "zed", "zz"])
        self.assertEqual(book.work_names(), ["wa", "waaaaaaa", "wab", "wabc", "wb", "wbob", "wzed", "wzz"])
        self.assertIs(type(book.person_names()), list)
        self.assertIs(type(book.work_names()), list)

    def test_deeds_tell_nothing_but_that_they_are_done(self):
        book = Book()
        self.assertIsNone(book.add_person("ada"))
        self.assertIsNone(book.add_work("ode"))
        self.assertEqual((book.person_names(), book.work_names()), (["ada"], ["ode"]))

    def test_a_name_is_taken_once_by_a_person_or_a_work(self):
        book = book_with("ada bob", "ode song")
        for name in ("ada", "bob", "ode", "song"):
            self.refused(Taken, book, "add_person", name)
            self.refused(Taken, book, "add_work", name)
        book.add_person("odes")
        book.add_work("coin")
        self.assertEqual((book.person_names(), book.work_names()), (["ada", "bob", "odes"], ["coin", "ode", "song"]))

    def test_twelve_of_each(self):
        people, works = [f"p{sign}" for sign in "abcdefghijkl"], [f"w{sign}" for sign in "abcdefghijkl"]
        book = book_with(" ".join(reversed(people)), " ".join(reversed(works)))
        self.assertEqual((book.person_names(), book.work_names()), (people, works))

    def test_asks_and_deeds_of_a_name_that_is_not_there_or_of_the_other_kind(self):
        book = book_with("ada bob", "ode song")
        for name in NO_NAMES + ("ode",):
            for deed, told in (("hands_of", ()), ("keep_of", ()), ("put_keep", ((1, 2),)),
                               ("hand_on", (3, "ada", (1, 2)))):
                self.refused(NoName, book, deed, name, *told)
            self.refused(NoName, book, "hand_on", "ada", 3, name, (1, 2))
            self.refused(NoName, book, "make_known", "ode", 3, name)
            self.refused(NoName, book, "put_debt", "wrong", 3, name, 1)
            self.refused(NoName, book, "put_debt", "advance", 3, name, 1)
        for name in NO_NAMES + ("ada",):
            for deed, told in (("rows_of", ()), ("known_of", ()), ("put_rows", ((),)), ("make_known", (3, "ada"))):
                self.refused(NoName, book, deed, name, *told)
            self.refused(NoName, book, "put_sold", 3, name, 1, 1, "coin")
            self.refused(NoName, book, "put_back", 3, name, 1, 1, "coin")

    def test_nothing_is_there_in_a_new_book(self):
        for name in NO_NAMES + ("ada",):
            self.refused(NoName, Book(), "rows_of", name)
            self.refused(NoName, Book(), "hands_of", name)

    def test_two_books_are_two(self):
        one, other = Book(), Book()
        one.add_person("ada")
        self.assertEqual((one.person_names(), other.person_names()), (["ada"], []))
        other.add_work("ada")
        one.add_work("ode")
        one.put_rows("ode", (("of", "ada", (1, 2)),))
        self.assertEqual(other.rows_of("ada"), ())


class TestRows(BookCase):
    ROWS = (
        ("length", "bob", 3), ("left", "song", (1, 2)), ("of", "ada", (1, 5)), ("of", "ode", (1, 10)),
        ("steps", "ada", ((10, (1, 10)), (20, (7, 10)), (None, (1, 20)))), ("left", "ada", (1, 1)))

    def test_none_at_first(self):
        book = book_with("ada", "ode")
        self.assertEqual(book.rows_of("ode"), ())
        self.assertIs(type(book.rows_of("ode")), tuple)

    def test_rows_are_told_as_they_were_put(self):
        book = book_with("ada bob", "ode song")
        self.assertIsNone(book.put_rows("ode", self.ROWS))
        self.assertEqual(book.rows_of("ode"), self.ROWS)
        self.assertIs(type(book.rows_of("ode")), tuple)
        self.assertEqual(book.rows_of("song"), ())

    def test_rows_put_again_are_these_alone(self):
        book = book_with("ada bob", "ode song")
        for rows in (self.ROWS, (("of", "bob", (1, 1)),), (("of", "ada", (1, 1)),), (), self.ROWS[::-1]):
            book.put_rows("ode", rows)
            self.assertEqual(book.rows_of("ode"), rows)

    def test_the_works_own_name(self):
        book = book_with("", "ode")
        book.put_rows("ode", (("of", "ode", (1, 1)),))
        self.assertEqual(book.rows_of("ode"), (("of", "ode", (1, 1)),))

    def test_told_rows_may_be_put_again(self):
        book = book_with("ada bob", "ode song")
        book.put_rows("ode", self.ROWS)
        book.put_rows("song", book.rows_of("ode"))
        book.put_rows("ode", book.rows_of("ode"))
        self.assertEqual((book.rows_of("song"), book.rows_of("ode")), (self.ROWS, self.ROWS))

    def test_a_name_in_a_row_that_is_not_there(self):
        book = book_with("ada bob", "ode song")
        book.put_rows("ode", self.ROWS)
        for row in (("of", "eve", (1, 2)), ("steps", "eve", ((1, (1, 2)), (None, (1, 3)))), ("left", "eve", (1, 2)),
                    ("length", "eve", 1)):
            self.refused(NoName, book, "put_rows", "ode", (row,))
            self.refused(NoName, book, "put_rows", "ode", (("of", "ada", (1, 2)), row))
            self.refused(NoName, book, "put_rows", "ode", (row, ("of", "ada", (1, 2))))
        self.assertEqual(book.rows_of("ode"), self.ROWS)
        book.add_person("eve")
        book.put_rows("ode", (("of", "eve", (1, 2)),))
        self.assertEqual(book.rows_of("ode"), (("of", "eve", (1, 2)),))

    def test_too_much(self):
        book = book_with("ada bob", "ode song")
        book.put_rows("ode", self.ROWS)
        self.refused(TooMuch, book, "put_rows", "ode", (("of", "ada", (1, 2)), ("of", "bob", (31, 60))))
        self.refused(TooMuch, book, "put_rows", "ode", (
            ("steps", "ada", ((1, (1, 10)), (9, (2, 3)), (None, (1, 10)))), ("of", "ode", (2, 5))))
        book.put_rows("ode", (("of", "ada", (1, 2)), ("of", "bob", (1, 2)), ("left", "ada", (1, 1))))

    def test_the_work_then_a_rows_name_then_too_much(self):
        book = book_with("ada", "ode")
        much, none = ("of", "ada", (1, 1)), ("of", "eve", (1, 1))
        self.refused(NoName, book, "put_rows", "ada", (much, much))
        self.refused(NoName, book, "put_rows", "eve", (much, much))
        for rows in itertools.permutations((much, much, none)):
            self.refused(NoName, book, "put_rows", "ode", rows)
        self.refused(TooMuch, book, "put_rows", "ode", (much, much))


class TestHands(BookCase):
    def test_none_at_first(self):
        self.assertEqual(book_with("ada").hands_of("ada"), [])

    def test_hands_rise_by_days_in_whatever_order_they_are_told(self):
        hands = [(0, "cy", (1, 2)), (2, "bob", (1, 1)), (7, "bob", (3, 60)), (10, "cy", (1, 3)), (9999, "bob", (1, 60))]
        for told in itertools.permutations(hands):
            book = book_with("ada bob cy")
            for day, name, part in told:
                self.assertIsNone(book.hand_on("ada", day, name, part))
            self.assertEqual(book.hands_of("ada"), hands)
            self.assertIs(type(book.hands_of("ada")), list)
            self.assertIs(type(book.hands_of("ada")[0]), tuple)
            self.assertEqual((book.hands_of("bob"), book.hands_of("cy")), ([], []))

    def test_a_day_is_taken_by_one_hand_of_that_person(self):
        book = book_with("ada bob cy")
        book.hand_on("ada", 5, "bob", (1, 2))
        self.refused(Taken, book, "hand_on", "ada", 5, "bob", (1, 2))
        self.refused(Taken, book, "hand_on", "ada", 5, "cy", (1, 3))
        book.hand_on("bob", 5, "ada", (1, 2))
        book.hand_on("cy", 5, "ada", (1, 2))
        book.hand_on("ada", 4, "bob", (1, 2))
        book.hand_on("ada", 6, "bob", (1, 2))
        self.assertEqual(book.hands_of("ada"), [(4, "bob", (1, 2)), (5, "bob", (1, 2)), (6, "bob", (1, 2))])
        self.assertEqual(book.hands_of("bob"), [(5, "ada", (1, 2))])

    def test_no_name_ahead_of_taken(self):
        book = book_with("ada bob", "ode")
        book.hand_on("ada", 5, "bob", (1, 2))
        self.refused(NoName, book, "hand_on", "ada", 5, "ada", (1, 2))
        self.refused(NoName, book, "hand_on", "ada", 6, "ada", (1, 2))
        self.refused(NoName, book, "hand_on", "ada", 5, "eve", (1, 2))
        self.refused(NoName, book, "hand_on", "ada", 5, "ode", (1, 2))
        self.refused(NoName, book, "hand_on", "ode", 5, "ode", (1, 2))
        self.refused(NoName, book, "hand_on", "eve", 5, "bob", (1, 2))

    def test_thirty_hands_of_one_person(self):
        book = book_with("ada bob")
        for day in range(30, 0, -1):
            book.hand_on("ada", day, "bob", (1, day))
        self.assertEqual(book.hands_of("ada"), [(day, "bob", (1, day)) for day in range(1, 31)])


class TestKnown(BookCase):
    def test_none_at_first(self):
        self.assertIsNone(book_with("", "ode").known_of("ode"))

    def test_known_once(self):
        book = book_with("ada bob", "ode song")
        self.assertIsNone(book.make_known("ode", 7, "ada"))
        self.assertEqual((book.known_of("ode"), book.known_of("song")), ((7, "ada"), None))
        for day, person in ((7, "ada"), (7, "bob"), (0, "bob"), (9, "ada")):
            self.refused(Taken, book, "make_known", "ode", day, person)
        book.make_known("song", 7, "ada")
        self.assertEqual((book.known_of("ode"), book.known_of("song")), ((7, "ada"), (7, "ada")))

    def test_day_nought(self):
        book = book_with("ada", "ode")
        book.make_known("ode", 0, "ada")
        self.assertEqual(book.known_of("ode"), (0, "ada"))
        self.refused(Taken, book, "make_known", "ode", 0, "ada")

    def test_no_name_ahead_of_taken(self):
        book = book_with("ada", "ode")
        book.make_known("ode", 7, "ada")
        self.refused(NoName, book, "make_known", "ode", 7, "eve")
        self.refused(NoName, book, "make_known", "ode", 8, "ode")
        self.refused(NoName, book, "make_known", "ada", 7, "ada")
        self.refused(NoName, book, "make_known", "eve", 7, "eve")


class TestRates(BookCase):
    def test_of_coin(self):
        book = Book()
        for day in (0, 5, 9999):
            self.assertEqual(book.worth_of("coin", day), (1, 1))
            self.refused(Taken, book, "put_rate", "coin", day, (1, 1))
            self.refused(Taken, book, "put_rate", "coin", day, (1, 2))
        self.assertEqual(book.rate_list(), [])

    def test_the_last_day_up_to_this_one(self):
        days = ((10, (1, 2)), (20, (1000, 1)), (30, (1, 1000)))
        for told in itertools.permutations(days):
            book = Book()
            for day, worth in told:
                self.assertIsNone(book.put_rate("eur", day, worth))
            for day in (0, 9):
                self.refused(NoRate, book, "worth_of", "eur", day)
            for day, worth in ((10, (1, 2)), (11, (1, 2)), (19, (1, 2)), (20, (1000, 1)), (29, (1000, 1)),
                               (30, (1, 1000)), (9999, (1, 1000))):
                self.assertEqual(book.worth_of("eur", day), worth)
            self.assertEqual(book.rate_list(), [("eur", day, worth) for day, worth in days])

    def test_a_rate_of_day_nought(self):
        book = Book()
        book.put_rate("eur", 0, (3, 2))
        self.assertEqual(book.worth_of("eur", 0), (3, 2))

    def test_never_told(self):
        book = book_with("ada", "ode")
        book.put_rate("eur", 0, (3, 2))
        for currency in ("usd", "ada", "ode", "eurs", "eu", "coins"):
            self.refused(NoRate, book, "worth_of", currency, 9999)

    def test_of_each_currency_alone(self):
        book = Book()
        book.put_rate("usd", 5, (2, 1))
        book.put_rate("eur", 9, (3, 1))
        book.put_rate("eur", 3, (4, 1))
        book.put_rate("aud", 7, (5, 1))
        self.assertEqual(book.rate_list(), [("aud", 7, (5, 1)), ("eur", 3, (4, 1)), ("eur", 9, (3, 1)),
                                            ("usd", 5, (2, 1))])
        self.assertIs(type(book.rate_list()), list)
        self.assertEqual((book.worth_of("usd", 9), book.worth_of("eur", 8), book.worth_of("eur", 9)),
                         ((2, 1), (4, 1), (3, 1)))
        self.refused(NoRate, book, "worth_of", "usd", 4)

    def test_a_day_is_taken_once_by_a_currency(self):
        book = Book()
        book.put_rate("eur", 5, (2, 1))
        self.refused(Taken, book, "put_rate", "eur", 5, (2, 1))
        self.refused(Taken, book, "put_rate", "eur", 5, (3, 1))
        book.put_rate("usd", 5, (3, 1))
        book.put_rate("eur", 4, (3, 1))
        self.assertEqual(book.worth_of("eur", 5), (2, 1))

    def test_a_currency_may_be_called_like_a_person_or_a_work(self):
        book = book_with("ada", "ode")
        book.put_rate("ada", 0, (2, 1))
        book.put_rate("ode", 0, (3, 1))
        self.assertEqual((book.worth_of("ada", 0), book.worth_of("ode", 0)), ((2, 1), (3, 1)))


class TestKeepsAndHalves(BookCase):
    def test_keep(self):
        book = book_with("ada bob")
        self.assertEqual(book.keep_of("ada"), (0, 1))
        for part in ((1, 1), (1, 60), (59, 60), (0, 1), (1, 2)):
            self.assertIsNone(book.put_keep("ada", part))
            self.assertEqual((book.keep_of("ada"), book.keep_of("bob")), (part, (0, 1)))

    def test_half(self):
        book = Book()
        self.assertEqual(book.half_days(), 182)
        for days in (1, 400, 182, 1):
            self.assertIsNone(book.put_half(days))
            self.assertEqual(book.half_days(), days)
        self.assertEqual(Book().half_days(), 182)


if __name__ == "__main__":
    unittest.main()
