"""Promise 16: the texts of books."""

import random
import unittest

from plaintexts import wanted_text
from reckoning import book_with, drawn_book, told_of
from royaltree.books import Book
from royaltree.texts import book_text


class TextCase(unittest.TestCase):
    def told(self, book, *rows):
        before = told_of(book)
        text = book_text(book)
        self.assertEqual(text, "\n".join(rows))
        self.assertIs(type(text), str)
        self.assertEqual(book_text(book), text)
        self.assertEqual(told_of(book), before)


class TestRows(TextCase):
    def test_a_book_without_anything(self):
        self.told(Book(), "half 182")

    def test_half(self):
        for days in (1, 10, 182, 400):
            book = Book()
            book.put_half(days)
            self.told(book, f"half {days}")
        book.put_half(9)
        self.told(book, "half 9")

    def test_people_and_works_rise(self):
        self.told(book_with("zed b ab a"), "half 182", "person a", "person ab", "person b", "person zed")
        self.told(book_with("", "zed b ab a"), "half 182", "work a", "work ab", "work b", "work zed")
        self.told(book_with("c a", "b d"), "half 182", "person a", "person c", "work b", "work d")

    def test_each_kind_of_a_works_rows(self):
        book = book_with("ada bob", "ode song")
        book.put_rows("ode", (("of", "ada", (1, 4)),))
        head = ("half 182", "person ada", "person bob", "work ode", "work song")
        self.told(book, *head, "of ode ada 1/4")
        book.put_rows("ode", (("left", "song", (3, 5)),))
        self.told(book, *head, "left ode song 3/5")
        book.put_rows("ode", (("length", "ode", 1000),))
        self.told(book, *head, "length ode ode 1000")
        book.put_rows("ode", (("of", "ada", (1, 1)), ("left", "bob", (1, 1)), ("length", "ada", 1)))
        self.told(book, *head, "of ode ada 1", "left ode bob 1", "length ode ada 1")
        book.put_rows("ode", ())
        self.told(book, *head)

    def test_steps_of_two_to_four_rates(self):
        book = book_with("ada", "ode")
        head = ("half 182", "person ada", "work ode")
        for rates, words in (
                (((100, (1, 10)), (None, (1, 5))), "1/10 100 1/5"),
                (((1, (1, 1)), (10 ** 6, (1, 60)), (None, (59, 60))), "1 1 1/60 1000000 59/60"),
                (((3, (1, 2)), (4, (1, 3)), (5, (1, 2)), (None, (1, 1))), "1/2 3 1/3 4 1/2 5 1")):
            book.put_rows("ode", (("steps", "ada", rates),))
            self.told(book, *head, f"steps ode ada {words}")

    def test_a_works_rows_stand_in_their_own_order(self):
        book = book_with("ada bob", "song ode")
        book.put_rows("song", (("length", "bob", 3), ("of", "ode", (1, 3)), ("left", "bob", (1, 2)),
                               ("length", "ada", 3), ("of", "ada", (1, 3)), ("left", "ada", (1, 2)),
                               ("of", "ada", (1, 3))))
        book.put_rows("ode", (("left", "song", (1, 2)), ("of", "ode", (1, 2))))
        self.told(book, "half 182", "person ada", "person bob", "work ode", "work song", "left ode song 1/2",
                  "of ode ode 1/2", "length song bob 3", "of song ode 1/3", "left song bob 1/2", "length song ada 3",
                  "of song ada 1/3", "left song ada 1/2", "of song ada 1/3")

    def test_hands_by_persons_then_days(self):
        book = book_with("ada bob cy")
        book.hand_on("cy", 0, "ada", (1, 2))
        book.hand_on("ada", 100, "bob", (1, 3))
        book.hand_on("ada", 20, "cy", (1, 1))
        book.hand_on("ada", 3, "cy", (2, 3))
        book.hand_on("bob", 9999, "cy", (59, 60))
        self.told(book, "half 182", "person ada", "person bob", "person cy", "hand ada 3 cy 2/3", "hand ada 20 cy 1",
                  "hand ada 100 bob 1/3", "hand bob 9999 cy 59/60", "hand cy 0 ada 1/2")

    def test_known_by_works(self):
        book = book_with("ada bob", "song ode tune")
        book.make_known("tune", 0, "bob")
        book.make_known("ode", 9999, "bob")
        book.make_known("song", 5, "ada")
        self.told(book, "half 182", "person ada", "person bob", "work ode", "work song", "work tune",
                  "known ode 9999 bob", "known song 5 ada", "known tune 0 bob")

    def test_rates_by_currencies_then_days(self):
        book = Book()
        book.put_rate("yen", 9999, (1, 1000))
        book.put_rate("yen", 100, (1000, 1))
        book.put_rate("yen", 20, (1, 1))
        book.put_rate("eur", 5, (999, 1000))
        book.put_rate("eur", 0, (3, 2))
        self.told(book, "half 182", "rate eur 0 3/2", "rate eur 5 999/1000", "rate yen 20 1", "rate yen 100 1000",
                  "rate yen 9999 1/1000")

    def test_keeps_by_persons_those_above_nought(self):
        book = book_with("ada bob cy dan")
        book.put_keep("dan", (1, 60))
        book.put_keep("cy", (0, 1))
        book.put_keep("bob", (1, 2))
        book.put_keep("ada", (1, 1))
        people = ("half 182", "person ada", "person bob", "person cy", "person dan")
        self.told(book, *people, "keep ada 1", "keep bob 1/2", "keep dan 1/60")
        book.put_keep("bob", (0, 1))
        self.told(book, *people, "keep ada 1", "keep dan 1/60")

    def test_money_by_days_those_of_one_day_as_told(self):
        book = book_with("", "ode song")
        book.put_rate("eur", 0, (1, 2))
        book.put_sold(9, "song", 1, 1, "coin")
        book.put_sold(5, "song", 10 ** 6, 10 ** 9, "eur")
        book.put_sold(5, "ode", 2, 3, "coin")
        book.put_back(5, "song", 7, 8, "coin")
        book.put_sold(5, "ode", 2, 3, "coin")
        book.put_sold(0, "ode", 4, 5, "eur")
        book.put_back(9999, "ode", 4, 5, "eur")
        self.told(book, "half 182", "work ode", "work song", "rate eur 0 1/2", "sold 0 ode 4 5 eur",
                  "sold 5 song 1000000 1000000000 eur", "sold 5 ode 2 3 coin", "back 5 song 7 8 coin",
                  "sold 5 ode 2 3 coin", "sold 9 song 1 1 coin", "back 9999 ode 4 5 eur")

    def test_debts_by_days_those_of_one_day_as_told(self):
        book = book_with("ada bob")
        book.put_debt("wrong", 5, "bob", 3)
        book.put_debt("advance", 5, "ada", 10 ** 9)
        book.put_debt("wrong", 5, "ada", 1)
        book.put_debt("wrong", 5, "bob", 3)
        book.put_debt("advance", 0, "bob", 2)
        self.told(book, "half 182", "person ada", "person bob", "advance 0 bob 2", "wrong 5 bob 3",
                  "advance 5 ada 1000000000", "wrong 5 ada 1", "wrong 5 bob 3")

    def test_names_like_words_of_rows(self):
        book = book_with("half of coin", "sold person")
        book.put_rows("sold", (("of", "of", (1, 2)), ("length", "half", 2)))
        book.hand_on("of", 1, "half", (1, 2))
        book.put_rate("half", 0, (2, 1))
        book.put_sold(3, "sold", 1, 2, "half")
        self.told(book, "half 182", "person coin", "person half", "person of", "work person", "work sold",
                  "of sold of 1/2", "length sold half 2", "hand of 1 half 1/2", "rate half 0 2", "sold 3 sold 1 2 half")


class TestAll(TextCase):
    ROWS = ("half 10", "person ada", "person bob", "work ode", "work song", "of ode ada 1/4",
            "steps ode song 1/10 100 1/5", "left ode bob 1/2", "length song ode 3", "hand ada 50 bob 1/2",
            "known song 60 bob", "rate eur 0 3/2", "keep bob 1/10", "sold 10 ode 5 100 eur", "back 20 ode 1 20 coin",
            "wrong 2 ada 3", "advance 5 bob 30")

    def deeds(self):
        return [
            lambda book: book.put_half(10),
            lambda book: book.put_rows("ode", (("of", "ada", (1, 4)),
                                               ("steps", "song", ((100, (1, 10)), (None, (1, 5)))),
                                               ("left", "bob", (1, 2)))),
            lambda book: book.put_rows("song", (("length", "ode", 3),)),
            lambda book: book.hand_on("ada", 50, "bob", (1, 2)),
            lambda book: book.make_known("song", 60, "bob"),
            lambda book: book.put_keep("bob", (1, 10)),
            lambda book: book.put_debt("advance", 5, "bob", 30),
            lambda book: book.put_debt("wrong", 2, "ada", 3),
            lambda book: (book.put_rate("eur", 0, (3, 2)), book.put_sold(10, "ode", 5, 100, "eur"),
                          book.put_back(20, "ode", 1, 20, "coin")),
        ]

    def test_the_order_of_all_rows_whatever_the_order_of_telling(self):
        draw = random.Random(101)
        for turn in range(30):
            book = book_with(*draw.choice((("ada bob", "ode song"), ("bob ada", "song ode"))))
            deeds = self.deeds()
            draw.shuffle(deeds)
            for deed in deeds:
                deed(book)
            self.told(book, *self.ROWS)
            self.told(book.twin_book(), *self.ROWS)

    def test_drawn_books(self):
        draw = random.Random(102)
        for turn in range(60):
            book = drawn_book(draw)
            self.told(book, *wanted_text(book).split("\n"))

    def test_a_text_tells_what_stands_when_it_is_asked(self):
        book = book_with("ada")
        text = book_text(book)
        book.add_person("bob")
        self.assertEqual(text, "half 182\nperson ada")
        self.told(book, "half 182", "person ada", "person bob")


if __name__ == "__main__":
    unittest.main()
