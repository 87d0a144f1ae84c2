"""Promise 8: what was sold and brought back, debts, and twins of books."""

import itertools
import random
import unittest

from reckoning import BookCase, PEOPLE, WORKS, book_with, drawn_book, told_by, told_of
from royaltree.books import Book
from royaltree.errors import Endless, NoName, NoneLeft, NoRate, RoyalError
from royaltree.ledger import Ledger


class TestSold(BookCase):
    def test_nothing_at_first(self):
        self.assertEqual(Book().money_list(), [])
        self.assertEqual(Book().debt_list(), [])

    def test_by_days_those_of_one_day_as_told(self):
        book = book_with("", "ode song")
        book.put_rate("eur", 2, (1, 2))
        for day, work, count, amount, currency in (
                (5, "song", 2, 9, "coin"), (2, "song", 1, 1, "eur"), (5, "ode", 3, 7, "eur"), (0, "ode", 1, 1, "coin"),
                (5, "ode", 1, 10 ** 9, "coin"), (9999, "ode", 10 ** 6, 1, "coin")):
            self.assertIsNone(book.put_sold(day, work, count, amount, currency))
        self.assertIsNone(book.put_back(5, "ode", 4, 2, "eur"))
        book.put_sold(5, "ode", 3, 7, "eur")
        self.assertEqual(book.money_list(), [
            ("sold", 0, "ode", 1, 1, "coin"), ("sold", 2, "song", 1, 1, "eur"), ("sold", 5, "song", 2, 9, "coin"),
            ("sold", 5, "ode", 3, 7, "eur"), ("sold", 5, "ode", 1, 10 ** 9, "coin"), ("back", 5, "ode", 4, 2, "eur"),
            ("sold", 5, "ode", 3, 7, "eur"), ("sold", 9999, "ode", 10 ** 6, 1, "coin")])
        self.assertIs(type(book.money_list()), list)
        self.assertEqual({type(row) for row in book.money_list()}, {tuple})

    def test_rows_alike_as_often_as_told(self):
        book = book_with("", "ode")
        for turn in range(3):
            book.put_sold(4, "ode", 2, 6, "coin")
            book.put_back(4, "ode", 1, 3, "coin")
        self.assertEqual(book.money_list(), [("sold", 4, "ode", 2, 6, "coin"), ("back", 4, "ode", 1, 3, "coin")] * 3)

    def test_rows_of_one_day_do_not_rise_but_stand_as_told(self):
        rows = [(1, "song", 5, 9, "coin"), (1, "ode", 5, 9, "coin"), (1, "song", 4, 1, "coin"), (1, "ode", 7, 2, "coin")]
        for told in itertools.permutations(rows):
            book = book_with("", "ode song")
            for row in told:
                book.put_sold(*row)
            self.assertEqual(book.money_list(), [("sold",) + row for row in told])

    def test_refused(self):
        book = book_with("ada", "ode")
        book.put_rate("eur", 5, (1, 2))
        book.put_sold(9, "ode", 1, 1, "eur")
        for deed in ("put_sold", "put_back"):
            self.refused(NoName, book, deed, 9, "ada", 1, 1, "eur")
            self.refused(NoName, book, deed, 9, "eve", 1, 1, "eur")
            self.refused(NoRate, book, deed, 4, "ode", 1, 1, "eur")
            self.refused(NoRate, book, deed, 9, "ode", 1, 1, "usd")
        book.put_sold(5, "ode", 1, 1, "eur")
        book.put_rate("usd", 9, (1, 2))
        book.put_sold(9, "ode", 1, 1, "usd")

    def test_no_name_then_no_rate_then_none_left(self):
        book = book_with("ada", "ode")
        book.put_rate("eur", 5, (1, 2))
        for deed in ("put_sold", "put_back"):
            self.refused(NoName, book, deed, 4, "eve", 1, 1, "eur")
            self.refused(NoName, book, deed, 4, "ada", 1, 1, "usd")
            self.refused(NoName, book, deed, 5, "", 1, 1, "coin")
        self.refused(NoRate, book, "put_back", 4, "ode", 1, 1, "eur")
        self.refused(NoRate, book, "put_back", 5, "ode", 1, 1, "usd")
        self.refused(NoneLeft, book, "put_back", 5, "ode", 1, 1, "eur")
        self.refused(NoneLeft, book, "put_back", 5, "ode", 1, 1, "coin")


class TestBack(BookCase):
    def test_as_many_as_were_left(self):
        book = book_with("", "ode")
        book.put_sold(3, "ode", 5, 10, "coin")
        self.refused(NoneLeft, book, "put_back", 3, "ode", 6, 1, "coin")
        book.put_back(3, "ode", 3, 1, "coin")
        self.refused(NoneLeft, book, "put_back", 4, "ode", 3, 1, "coin")
        book.put_back(4, "ode", 2, 10 ** 9, "coin")
        self.refused(NoneLeft, book, "put_back", 4, "ode", 1, 1, "coin")
        self.refused(NoneLeft, book, "put_back", 9999, "ode", 1, 1, "coin")

    def test_a_back_that_fits_by_a_sale_told_later(self):
        book = book_with("", "ode")
        book.put_sold(1, "ode", 2, 10, "coin")
        self.refused(NoneLeft, book, "put_back", 5, "ode", 3, 1, "coin")
        book.put_sold(6, "ode", 9, 10, "coin")
        self.refused(NoneLeft, book, "put_back", 5, "ode", 3, 1, "coin")
        book.put_sold(4, "ode", 1, 10, "coin")
        book.put_back(5, "ode", 3, 1, "coin")
        self.assertEqual([row[:2] for row in book.money_list()], [("sold", 1), ("sold", 4), ("back", 5), ("sold", 6)])

    def test_a_back_ahead_of_other_backs_that_would_leave_too_few_for_those(self):
        book = book_with("", "ode")
        book.put_sold(1, "ode", 5, 10, "coin")
        book.put_back(9, "ode", 4, 10, "coin")
        self.refused(NoneLeft, book, "put_back", 5, "ode", 2, 1, "coin")
        book.put_sold(9, "ode", 9, 10, "coin")
        self.refused(NoneLeft, book, "put_back", 5, "ode", 2, 1, "coin")
        book.put_back(5, "ode", 1, 1, "coin")
        self.refused(NoneLeft, book, "put_back", 1, "ode", 1, 1, "coin")
        book.put_back(9, "ode", 9, 1, "coin")

    def test_too_few_at_a_row_further_behind_alone(self):
        book = book_with("", "ode")
        book.put_sold(1, "ode", 5, 10, "coin")
        book.put_back(5, "ode", 1, 10, "coin")
        book.put_back(9, "ode", 4, 10, "coin")
        self.refused(NoneLeft, book, "put_back", 3, "ode", 1, 1, "coin")
        book.put_sold(8, "ode", 1, 10, "coin")
        book.put_back(3, "ode", 1, 1, "coin")
        self.refused(NoneLeft, book, "put_back", 3, "ode", 1, 1, "coin")

    def test_ahead_of_the_sale(self):
        book = book_with("", "ode")
        book.put_sold(5, "ode", 5, 10, "coin")
        self.refused(NoneLeft, book, "put_back", 4, "ode", 1, 1, "coin")
        self.refused(NoneLeft, book, "put_back", 0, "ode", 1, 1, "coin")
        book.put_back(5, "ode", 1, 1, "coin")

    def test_rows_of_one_day_as_told(self):
        book = book_with("", "ode")
        self.refused(NoneLeft, book, "put_back", 5, "ode", 1, 1, "coin")
        book.put_sold(5, "ode", 2, 10, "coin")
        book.put_back(5, "ode", 2, 1, "coin")
        self.refused(NoneLeft, book, "put_back", 5, "ode", 1, 1, "coin")
        book.put_sold(5, "ode", 1, 10, "coin")
        book.put_back(5, "ode", 1, 1, "coin")
        self.assertEqual([row[0] for row in book.money_list()], ["sold", "back", "sold", "back"])

    def test_of_each_work_alone(self):
        book = book_with("", "ode song")
        book.put_sold(1, "ode", 5, 10, "coin")
        self.refused(NoneLeft, book, "put_back", 2, "song", 1, 1, "coin")
        book.put_sold(1, "song", 1, 10, "coin")
        self.refused(NoneLeft, book, "put_back", 2, "song", 2, 1, "coin")
        book.put_back(2, "song", 1, 1, "coin")
        book.put_back(2, "ode", 5, 1, "coin")

    def test_more_money_back_than_came(self):
        book = book_with("", "ode")
        book.put_sold(1, "ode", 1, 1, "coin")
        book.put_back(2, "ode", 1, 10 ** 9, "coin")
        self.assertEqual(len(book.money_list()), 2)

    def test_against_trying_every_row(self):
        draw = random.Random(31)
        refused = 0
        for turn in range(60):
            book, told = book_with("", "ode song"), []
            for step in range(14):
                row = (draw.choice(("sold", "back")), draw.randint(0, 6), draw.choice(("ode", "song")),
                       draw.randint(1, 4), 5, "coin")
                wanted = sorted(told + [row], key=lambda one: one[1])
                fits = all(sum(count if kind == "sold" else -count for kind, day, name, count, *rest in wanted[:at]
                               if name == work) >= 0 for at in range(len(wanted) + 1) for work in ("ode", "song"))
                if fits:
                    getattr(book, "put_" + row[0])(*row[1:])
                    told.append(row)
                else:
                    refused += 1
                    self.refused(NoneLeft, book, "put_back", *row[1:])
                self.assertEqual(book.money_list(), sorted(told, key=lambda one: one[1]))
        self.assertGreater(refused, 50)


class TestDebts(BookCase):
    def test_both_kinds_by_days_those_of_one_day_as_told(self):
        book = book_with("ada bob")
        for row in (("wrong", 5, "bob", 3), ("advance", 5, "ada", 10 ** 9), ("advance", 0, "bob", 1),
                    ("wrong", 5, "ada", 2), ("wrong", 9999, "ada", 2), ("advance", 5, "ada", 10 ** 9),
                    ("wrong", 4, "ada", 2)):
            self.assertIsNone(book.put_debt(*row))
        self.assertEqual(book.debt_list(), [
            ("advance", 0, "bob", 1), ("wrong", 4, "ada", 2), ("wrong", 5, "bob", 3), ("advance", 5, "ada", 10 ** 9),
            ("wrong", 5, "ada", 2), ("advance", 5, "ada", 10 ** 9), ("wrong", 9999, "ada", 2)])
        self.assertIs(type(book.debt_list()), list)
        self.assertEqual({type(row) for row in book.debt_list()}, {tuple})

    def test_no_name(self):
        book = book_with("ada", "ode")
        for kind in ("wrong", "advance"):
            self.refused(NoName, book, "put_debt", kind, 3, "ode", 1)
            self.refused(NoName, book, "put_debt", kind, 3, "eve", 1)


def change_all(book):
    """One more deed of every kind, each of which a book told as in TestTwins takes."""
    book.add_person("eve")
    book.add_work("poem")
    book.put_rows("ode", (("of", "eve", (1, 7)),))
    book.hand_on("ada", 77, "bob", (1, 7))
    book.make_known("song", 8, "ada")
    book.put_rate("eur", 77, (7, 1))
    book.put_keep("ada", (1, 7))
    book.put_half(77)
    book.put_sold(77, "ode", 7, 7, "eur")
    book.put_back(77, "ode", 7, 7, "coin")
    book.put_debt("wrong", 77, "ada", 7)


class TestTwins(BookCase):
    def told_book(self):
        book = book_with("ada bob", "ode song")
        book.put_rows("ode", (("of", "ada", (1, 2)), ("left", "song", (1, 3))))
        book.hand_on("ada", 5, "bob", (1, 2))
        book.make_known("ode", 6, "bob")
        book.put_rate("eur", 3, (2, 3))
        book.put_keep("bob", (1, 4))
        book.put_half(30)
        book.put_sold(9, "ode", 4, 100, "eur")
        book.put_sold(3, "song", 4, 100, "coin")
        book.put_back(9, "ode", 1, 10, "coin")
        book.put_debt("wrong", 4, "ada", 9)
        book.put_debt("advance", 2, "ada", 9)
        return book

    def test_a_twin_tells_the_same(self):
        for book in (Book(), self.told_book()):
            twin = book.twin_book()
            self.assertIs(type(twin), Book)
            self.assertIsNot(twin, book)
            self.assertEqual(told_of(twin), told_of(book))
            self.assertEqual(told_of(twin.twin_book()), told_of(book))

    def test_deeds_behind_on_one_do_not_touch_the_other(self):
        wanted = told_of(self.told_book())
        book = self.told_book()
        twin = book.twin_book()
        change_all(book)
        self.assertEqual(told_of(twin), wanted)
        changed = told_of(book)
        other = self.told_book()
        twin = other.twin_book()
        change_all(twin)
        self.assertEqual(told_of(other), wanted)
        self.assertEqual(told_of(twin), changed)
        for key in wanted:
            self.assertNotEqual(changed[key], wanted[key], key)

    def test_a_twin_of_a_twin(self):
        book = self.told_book()
        twin = book.twin_book()
        third = twin.twin_book()
        change_all(twin)
        self.assertEqual(told_of(third), told_of(book))
        change_all(third)
        self.assertEqual(told_of(third), told_of(twin))
        self.assertEqual(told_of(book), told_of(self.told_book()))

    def test_a_twin_refuses_what_the_book_refuses(self):
        book = self.told_book()
        twin = book.twin_book()
        self.refused(NoneLeft, twin, "put_back", 9, "ode", 4, 1, "coin")
        twin.put_back(9, "ode", 3, 1, "coin")
        self.refused(NoneLeft, book, "put_back", 9, "ode", 4, 1, "coin")
        book.put_back(9, "ode", 3, 2, "coin")

    def test_rows_of_one_day_told_behind_the_twinning_stand_behind(self):
        book = self.told_book()
        twin = book.twin_book()
        twin.put_sold(3, "song", 1, 1, "coin")
        self.assertEqual(twin.money_list()[:2], [("sold", 3, "song", 4, 100, "coin"), ("sold", 3, "song", 1, 1, "coin")])


def deeds_of(book):
    """The deeds that make such a book, those that need others behind these."""
    deeds = [("put_half", book.half_days())]
    deeds += [("put_rows", work, book.rows_of(work)) for work in book.work_names()]
    deeds += [("make_known", work) + book.known_of(work) for work in book.work_names() if book.known_of(work)]
    deeds += [("hand_on", person) + hand for person in book.person_names() for hand in book.hands_of(person)]
    deeds += [("put_keep", person, book.keep_of(person)) for person in book.person_names()]
    return deeds + [("put_rate",) + rate for rate in book.rate_list()]


class TestOrders(unittest.TestCase):
    def retold(self, draw, book):
        """The same book, told in another order that the document lets be told."""
        other = book_with(" ".join(draw.sample(PEOPLE, len(PEOPLE))), " ".join(draw.sample(WORKS, len(WORKS))))
        deeds = deeds_of(book)
        draw.shuffle(deeds)
        # Of one day the rows stand as told, so these keep their order; those of different days needn't.
        for rows in (book.money_list(), book.debt_list()):
            days = sorted({row[1] for row in rows}, key=lambda day: draw.random())
            named = [("put_debt",) + row if len(row) == 4 else ("put_" + row[0],) + row[1:]
                     for day in days for row in rows if row[1] == day]
            deeds += sorted(named, key=lambda deed: deed[0] == "put_back")
        for deed, *told in deeds:
            getattr(other, deed)(*told)
        return other

    def test_two_orders_of_telling_give_the_same_answers(self):
        draw, went = random.Random(37), 0
        for turn in range(80):
            book = drawn_book(draw)
            # A back that stands ahead of a sale of its day would have to be told ahead of it, too.
            kinds = {}
            for row in book.money_list():
                kinds.setdefault(row[1], []).append(row[0])
            if any(day_kinds != sorted(day_kinds, reverse=True) for day_kinds in kinds.values()):
                continue
            other = self.retold(draw, book)
            self.assertEqual(told_of(other), told_of(book))
            try:
                wanted = told_by(Ledger(book, 60), PEOPLE, WORKS)
            except Endless as refusal:
                with self.assertRaises(RoyalError) as caught:
                    Ledger(other, 60)
                self.assertEqual(caught.exception.names, refusal.names)
            else:
                went += 1
                self.assertEqual(told_by(Ledger(other, 60), PEOPLE, WORKS), wanted)
        self.assertGreater(went, 15)


if __name__ == "__main__":
    unittest.main()
